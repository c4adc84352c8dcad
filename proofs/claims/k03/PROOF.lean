import PyProof.Rows.All
import Wide.All
import OpenK.AllK
import Wide.FinOn
import Lean
import PyProof.Rows.SortStrRead
import PySem.Challenge.RW_patchkin_k03_recorded
set_option Elab.async false
set_option linter.all false
set_option maxRecDepth 100000
set_option maxHeartbeats 0
theorem Ph:type_of% @PySem.wpAny_bind:=@PySem.wpAny_bind
theorem QU:type_of% @List.length_map:=@List.length_map
theorem R7:type_of% @List.getElem?_eq_getElem:=@List.getElem?_eq_getElem
theorem R8:type_of% @PySem.wpAny_pure:=@PySem.wpAny_pure
theorem Sd:type_of% @List.mem_singleton:=@List.mem_singleton
theorem Vb:type_of% @Nat.le_refl:=@Nat.le_refl
theorem Ve:type_of% @PySem.Heap.get?_push_of_some:=@PySem.Heap.get?_push_of_some
theorem Vh:type_of% @List.length_append:=@List.length_append
theorem Vi:type_of% @List.mem_map_of_mem:=@List.mem_map_of_mem
theorem V7:type_of% @decide_eq_true:=@decide_eq_true
theorem V9:type_of% @List.mem_cons:=@List.mem_cons
theorem W7:type_of% @List.length_cons:=@List.length_cons
theorem Xj:type_of% @List.mem_of_getElem?:=@List.mem_of_getElem?
theorem YD:type_of% @List.mem_append:=@List.mem_append
theorem YE:type_of% @List.mem_cons_of_mem:=@List.mem_cons_of_mem
theorem YI:type_of% @List.getElem?_map:=@List.getElem?_map
theorem YK:type_of% @PySem.Heap.get?_push_size:=@PySem.Heap.get?_push_size
theorem aaa:type_of% @List.size_toArray:=@List.size_toArray
theorem aab:type_of% @Bool.false_ne_true:=@Bool.false_ne_true
theorem aac:type_of% @if_neg:=@if_neg
theorem aad:type_of% @List.filter_cons_of_pos:=@List.filter_cons_of_pos
theorem aae:type_of% @List.mem_cons_self:=@List.mem_cons_self
theorem aaf:type_of% @List.filter_cons_of_neg:=@List.filter_cons_of_neg
theorem aag:type_of% @if_pos:=@if_pos
theorem aah:type_of% @List.mem_filter:=@List.mem_filter
theorem aai:type_of% @decide_eq_false:=@decide_eq_false
theorem aaj:type_of% @PySem.Paired.length:=@PySem.Paired.length
theorem aak:type_of% @PySem.Heap.lt_size:=@PySem.Heap.lt_size
theorem aal:type_of% @Option.some.inj:=@Option.some.inj
theorem aam:type_of% @PySem.W.mg_of:=@PySem.W.mg_of
theorem aan:type_of% @List.mem_append_left:=@List.mem_append_left
theorem aao:type_of% @Nat.le_trans:=@Nat.le_trans
theorem aap:type_of% @PySem.PassesOwn.never:=@PySem.PassesOwn.never
theorem aaq:type_of% @PySem.F.plainAttrs_list:=@PySem.F.plainAttrs_list
theorem aar:type_of% @List.map_append:=@List.map_append
theorem aas:type_of% @List.length_eq_zero_iff:=@List.length_eq_zero_iff
theorem aat:type_of% @List.map_cons:=@List.map_cons
theorem aau:type_of% @of_decide_eq_true:=@of_decide_eq_true
theorem aav:type_of% @List.take_length:=@List.take_length
theorem aaw:type_of% @Nat.lt_of_lt_of_le:=@Nat.lt_of_lt_of_le
theorem aax:type_of% @PySem.F.slot_list_append:=@PySem.F.slot_list_append
theorem aay:type_of% @PySem.F.type_list_append:=@PySem.F.type_list_append
theorem aaz:type_of% @PySem.boot_len:=@PySem.boot_len
theorem aaA:type_of% @List.length_take:=@List.length_take
theorem aaB:type_of% @Array.length_toList:=@Array.length_toList
theorem aaC:type_of% @List.Sublist.refl:=@List.Sublist.refl
theorem aaD:type_of% @Nat.ne_of_lt:=@Nat.ne_of_lt
theorem aaE:type_of% @PySem.sizeLine_eq:=@PySem.sizeLine_eq
theorem aaF:type_of% @List.flatMap_cons:=@List.flatMap_cons
theorem aaG:type_of% @List.mem_append_right:=@List.mem_append_right
theorem aaH:type_of% @List.filter_append:=@List.filter_append
theorem aaI:type_of% @Nat.zero_le:=@Nat.zero_le
theorem aaJ:type_of% @List.append_nil:=@List.append_nil
theorem aaK:type_of% @List.append_assoc:=@List.append_assoc
theorem aaL:type_of% @Array.getElem?_toList:=@Array.getElem?_toList
theorem aaM:type_of% @List.length_filter_le:=@List.length_filter_le
theorem aaN:type_of% @PyProof.Rows.callWith_type1:=@PyProof.Rows.callWith_type1
theorem aaO:type_of% @Array.getElem?_eq_getElem:=@Array.getElem?_eq_getElem
theorem aaP:type_of% @PySem.W.mg_none_of:=@PySem.W.mg_none_of
theorem aaQ:type_of% @congrArg:=@congrArg
theorem aaR:type_of% @PyProof.Rows.boot_isinstance:=@PyProof.Rows.boot_isinstance
theorem aaS:type_of% @PySem.Heap.get?_update_self:=@PySem.Heap.get?_update_self
theorem aaT:type_of% @List.mem_iff_getElem?:=@List.mem_iff_getElem?
theorem aaU:type_of% @List.drop_eq_getElem_cons:=@List.drop_eq_getElem_cons
theorem aaV:type_of% @Bool.false_eq_true:=@Bool.false_eq_true
theorem aaW:type_of% @Bool.and_eq_true:=@Bool.and_eq_true
theorem aaX:type_of% @List.filter_nil:=@List.filter_nil
theorem aaY:type_of% @List.nodup_cons:=@List.nodup_cons
theorem aaZ:type_of% @PySem.Heap.SameBut.update:=@PySem.Heap.SameBut.update
theorem aa0:type_of% @List.filter_sublist:=@List.filter_sublist
theorem aa1:type_of% @List.sublist_append_right:=@List.sublist_append_right
theorem aa2:type_of% @List.pairwise_iff_getElem:=@List.pairwise_iff_getElem
theorem aa3:type_of% @List.flatMap_append:=@List.flatMap_append
theorem aa4:type_of% @List.mem_flatMap:=@List.mem_flatMap
theorem aa5:type_of% @List.nodup_append:=@List.nodup_append
theorem aa6:type_of% @List.getElem?_set_self:=@List.getElem?_set_self
theorem aa7:type_of% @List.replicate_succ:=@List.replicate_succ
theorem aa8:type_of% @PySem.wpAny_call_entry:=@PySem.wpAny_call_entry
theorem aa9:type_of% @PySem.wpAny_holding:=@PySem.wpAny_holding
theorem aa_:type_of% @PySem.wpAny_newObj_type:=@PySem.wpAny_newObj_type
theorem aba:type_of% @PySem.wpAny_dictEntries:=@PySem.wpAny_dictEntries
theorem abb:type_of% @List.getElem?_append_right:=@List.getElem?_append_right
theorem abc:type_of% @List.getElem?_set_ne:=@List.getElem?_set_ne
theorem abd:type_of% @PySem.Calls.spliced_cons:=@PySem.Calls.spliced_cons
theorem abe:type_of% @decide_eq_true_iff:=@decide_eq_true_iff
theorem abf:type_of% @PySem.Heap.get?_update_other:=@PySem.Heap.get?_update_other
theorem abg:type_of% @PySem.W.kia_one:=@PySem.W.kia_one
theorem abh:type_of% @List.nodup_nil:=@List.nodup_nil
theorem abi:type_of% @PySem.wpAny_ite_split:=@PySem.wpAny_ite_split
theorem abj:type_of% @Nat.lt_irrefl:=@Nat.lt_irrefl
theorem abk:type_of% @List.length_reverse:=@List.length_reverse
theorem abl:type_of% @decide_eq_true_eq:=@decide_eq_true_eq
theorem abm:type_of% @PySem.F.slot_dict_keyiterator_next:=@PySem.F.slot_dict_keyiterator_next
theorem abn:type_of% @Nat.lt_of_le_of_lt:=@Nat.lt_of_le_of_lt
theorem abo:type_of% @PySem.Around.under_plainId:=@PySem.Around.under_plainId
theorem abp:type_of% @PySem.Calls.callWith_builtin:=@PySem.Calls.callWith_builtin
theorem abq:type_of% @List.sublist_cons_self:=@List.sublist_cons_self
theorem abr:type_of% @PyProof.Rows.boot_list:=@PyProof.Rows.boot_list
theorem abt:type_of% @beq_eq_false_iff_ne:=@beq_eq_false_iff_ne
theorem abu:type_of% @PySem.wpAny_mono:=@PySem.wpAny_mono
theorem abv:type_of% @PySem.wpAny_truthy_bool:=@PySem.wpAny_truthy_bool
theorem abw:type_of% @PySem.Calls.spliced_nil:=@PySem.Calls.spliced_nil
theorem abx:type_of% @PySem.mem_of_lookup:=@PySem.mem_of_lookup
theorem aby:type_of% @PySem.Heap.size_push:=@PySem.Heap.size_push
theorem abz:type_of% @PySem.tupleKind_room_in1:=@PySem.tupleKind_room_in1
theorem abA:type_of% @Nat.lt_succ_self:=@Nat.lt_succ_self
theorem abB:type_of% @PySem.wpAny_typeNameOfWhole_keyiter:=@PySem.wpAny_typeNameOfWhole_keyiter
theorem abC:type_of% @List.flatMap_nil:=@List.flatMap_nil
theorem abD:type_of% @PySem.Calls.evalArgs_plain:=@PySem.Calls.evalArgs_plain
theorem abE:type_of% @Ne.symm:=@Ne.symm
theorem abF:type_of% @Bool.eq_false_iff:=@Bool.eq_false_iff
theorem abG:type_of% @List.length_range:=@List.length_range
theorem abH:type_of% @List.filterMap_cons:=@List.filterMap_cons
theorem abI:type_of% @Bool.eq_iff_iff:=@Bool.eq_iff_iff
theorem abJ:type_of% @Option.map_some:=@Option.map_some
theorem abK:type_of% @PySem.wpAny_specialOf:=@PySem.wpAny_specialOf
theorem abL:type_of% @PySem.wpAny_of_eq:=@PySem.wpAny_of_eq
theorem abM:type_of% @PySem.codeAny_builtin:=@PySem.codeAny_builtin
theorem abN:type_of% @beq_iff_eq:=@beq_iff_eq
theorem abO:type_of% @List.all_eq_true:=@List.all_eq_true
theorem abP:type_of% @List.mem_filterMap:=@List.mem_filterMap
theorem abQ:type_of% @List.filterMap_append:=@List.filterMap_append
theorem abR:type_of% @List.take_append_drop:=@List.take_append_drop
theorem abS:type_of% @List.getElem?_append_left:=@List.getElem?_append_left
theorem abT:type_of% @PySem.F.plain_extend_loop:=@PySem.F.plain_extend_loop
theorem abU:type_of% @List.take_zero:=@List.take_zero
theorem abV:type_of% @Array.toArray_toList:=@Array.toArray_toList
theorem abW:type_of% @PySem.wpAny_passesOwn:=@PySem.wpAny_passesOwn
theorem abX:type_of% @Int.toNat_natCast:=@Int.toNat_natCast
theorem abY:type_of% @List.flatten_cons:=@List.flatten_cons
theorem abZ:type_of% @PySem.F.slot_dict_update:=@PySem.F.slot_dict_update
theorem ab0:type_of% @List.pairwise_map:=@List.pairwise_map
theorem ab1:type_of% @Nat.ne_of_gt:=@Nat.ne_of_gt
theorem ab2:type_of% @Nat.le_succ:=@Nat.le_succ
theorem ab3:type_of% @if_false:=@if_false
theorem ab4:type_of% @PySem.F.plainAttrs_dict:=@PySem.F.plainAttrs_dict
theorem ab5:type_of% @List.map_congr_left:=@List.map_congr_left
theorem ab6:type_of% @PySem.plainId_quiet:=@PySem.plainId_quiet
theorem ab7:type_of% @List.getElem?_range:=@List.getElem?_range
theorem ab8:type_of% @List.lookup_cons:=@List.lookup_cons
theorem ab9:type_of% @List.not_mem_nil:=@List.not_mem_nil
theorem ab_:type_of% @PySem.wpAny_fieldsOf:=@PySem.wpAny_fieldsOf
theorem aca:type_of% @List.take_of_length_le:=@List.take_of_length_le
theorem acb:type_of% @List.getElem?_drop:=@List.getElem?_drop
theorem acd:type_of% @PySem.codeAny_mono:=@PySem.codeAny_mono
theorem ace:type_of% @List.length_set:=@List.length_set
theorem acf:type_of% @List.foldl_cons:=@List.foldl_cons
theorem acg:type_of% @List.find?_cons:=@List.find?_cons
theorem ach:type_of% @PySem.size_of_entries:=@PySem.size_of_entries
theorem aci:type_of% @List.getElem?_eq_none:=@List.getElem?_eq_none
theorem acj:type_of% @List.take_sublist:=@List.take_sublist
theorem ack:type_of% @Nat.lt_succ_of_lt:=@Nat.lt_succ_of_lt
theorem acm:type_of% @List.ext_getElem?:=@List.ext_getElem?
theorem acn:type_of% @List.reverse_cons:=@List.reverse_cons
theorem aco:type_of% @List.filter_cons:=@List.filter_cons
theorem acp:type_of% @List.range'_succ:=@List.range'_succ
theorem acq:type_of% @List.drop_length:=@List.drop_length
theorem acr:type_of% @PySem.sizeLine_eq:=@PySem.sizeLine_eq
theorem acs:type_of% @List.length_nil:=@List.length_nil
theorem acu:type_of% @Bool.or_eq_true:=@Bool.or_eq_true
theorem acv:type_of% @Sum.inr.inj:=@Sum.inr.inj
abbrev Qqq:=PySem.Value->PySem.Shared->Prop
abbrev Qqz:=List (PySem.Addr×PySem.Obj)
abbrev Qqx:=PySem.Str->Option PySem.Value
abbrev Qqy:=PySem.W.Frag
namespace L2
open PySem PySem.Spec PyProof.Rows
abbrev Key:=Sum Int Str
def yr:Key->Value->Bool
 | .inl k,v=>Value.isInt k v
 | .inr x,v=>Value.isStrOf x v
def UB(w:World):Key->Int
 | .inl k=>hashInt k
 | .inr x=>hashStr w x
theorem jk:∀{k:Key} {v:Value},yr k v=true->(∃i t,k=Sum.inl i/\v=Value.int i t)\/(∃x t,k=Sum.inr x/\v=Value.str x t)
 | .inl i,v,h=>by
  obtain⟨t,e⟩:=Value.isInt_shape (k:=i) (v:=v) h
  exact .inl ⟨i,t,rfl,e⟩
 | .inr x,v,h=>by
  obtain⟨t,e⟩:=Value.isStrOf_shape (x:=x) (v:=v) h
  exact .inr ⟨x,t,rfl,e⟩
theorem Gs(i:Int)(t:Tok):yr (.inl i) (.int i t)=true:=by simp[yr,Value.isInt]
theorem Gu(x:Str)(t:Tok):yr (.inr x) (.str x t)=true:=by simp[yr,Value.isStrOf]
theorem Nd(a b:Int):decide ((Sum.inl a:Key)=Sum.inl b)=(a ==b):=by
 by_cases e:a=b
 ·subst e;simp
 ·have h:¬(Sum.inl a:Key)=Sum.inl b:=λq=>e (Sum.inl.inj q)
  rw[aai h]
  exact(abt.mpr e).symm
theorem Nf(a b:Str):decide ((Sum.inr a:Key)=Sum.inr b)=decide (a=b):=by
 by_cases e:a=b
 ·subst e;simp
 ·have h:¬(Sum.inr a:Key)=Sum.inr b:=λq=>e (acv q)
  rw[aai h,aai e]
theorem Ng(a:Int)(b:Str):decide ((Sum.inl a:Key)=Sum.inr b)=false:=aai (λq=>nomatch q)
theorem Nh(a:Str)(b:Int):decide ((Sum.inr a:Key)=Sum.inl b)=false:=aai (λq=>nomatch q)
def ja(prog:Program)(w:World):PySem.KeyKind prog w Key where
 is:=yr
 hash:=UB w
 inj:=λv a b ha hb=>by
  rcases jk ha with⟨i,t,rfl,rfl⟩|⟨x,t,rfl,rfl⟩
  ·rcases jk hb with⟨j,u,rfl,e⟩|⟨y,u,rfl,e⟩
   ·injection e with e1 _;rw[e1]
   ·exact nomatch e
  ·rcases jk hb with⟨j,u,rfl,e⟩|⟨y,u,rfl,e⟩
   ·exact nomatch e
   ·injection e with e1 _;rw[e1]
 byValue:=λk v h=>by
  rcases jk h with⟨i,t,rfl,rfl⟩|⟨x,t,rfl,rfl⟩<;>rfl
 pyHash:=λhv h=>by
  rcases jk hv with⟨i,t,rfl,rfl⟩|⟨x,t,rfl,rfl⟩
  ·exact wpAny_pyHash_int h
  ·exact wpAny_pyHash_str h
 eqBool:=λhu hv h=>by
  rcases jk hu with⟨i,t,rfl,rfl⟩|⟨x,t,rfl,rfl⟩
  ·rcases jk hv with⟨j,u,rfl,rfl⟩|⟨y,u,rfl,rfl⟩
   ·rw[Nd] at h;exact wpAny_eqBool_int h
   ·rw[Ng] at h;exact SeqAt.EqAt.int_str i t y u _ _ _ _ h
  ·rcases jk hv with⟨j,u,rfl,rfl⟩|⟨y,u,rfl,rfl⟩
   ·rw[Nh] at h;exact SeqAt.EqAt.str_int x t j u _ _ _ _ h
   ·rw[Nf] at h;exact wpAny_eqBool_str h
 «strs»:=λk x t v h=>by
  rcases jk h with⟨i,u,rfl,e⟩|⟨y,u,rfl,e⟩
  ·exact nomatch e
  ·injection e with e1 _
   subst e1
   cases v<;>rfl
theorem CO(prog:Program)(w:World)(i:Int)(t:Tok):(ja prog w).is (.inl i) (.int i t)=true:=Gs i t
theorem CP(prog:Program)(w:World)(x:Str)(t:Tok):(ja prog w).is (.inr x) (.str x t)=true:=Gu x t
inductive V where
 | jb|bl (b:Bool)|int (i:Int)|str (x:Str)|Ep (b:Array UInt8)|Mo (b:UInt64)|ref (a:Addr)|ty (n:String)
 deriving DecidableEq
def RelV:V->Value->Prop
 | .jb,u=>u=Value.none
 | .bl b,u=>u=Value.bool b
 | .int i,u=>∃t,u=Value.int i t
 | .str x,u=>∃t,u=Value.str x t
 | .Ep b,u=>∃t,u=Value.bytes b t
 | .Mo b,u=>∃t,u=Value.float b t
 | .ref a,u=>u=Value.ref a
 | .ty n,u=>u=Value.type n
abbrev Vals:List V->List Value->Prop:=Paired RelV
theorem Vals.length{xs:List V}{us:List Value}(r:Vals xs us):xs.length=us.length:=aaj r
theorem Vals.get:∀{xs:List V} {us:List Value} {i:Nat} {x:V},Vals xs us->xs[i]?=some x->∃u,us[i]?=some u/\RelV x u
 | _,_,_,_,.nil,e=>by simp at e
 | _,_,0,_,.cons r _,e=>by simp at e;subst e;exact⟨_,rfl,r⟩
 | _,_,i+1,x,.cons _ t,e=>by
  obtain⟨u,h1,h2⟩:=Vals.get (i:=i) (x:=x) t (by simpa using e)
  exact⟨u,by simpa using h1,h2⟩
theorem Vals.set{x:V}{u:Value}(r:RelV x u):∀{xs:List V} {us:List Value} (i:Nat),Vals xs us->Vals (xs.set i x) (us.set i u)
 | _,_,_,.nil=>.nil
 | _,_,0,.cons _ t=>.cons r t
 | _,_,i+1,.cons q t=>.cons q (Vals.set r i t)
theorem Vals.append:∀{xs ys:List V} {us ws:List Value},Vals xs us->Vals ys ws->Vals (xs++ys) (us++ws)
 | _,_,_,_,.nil,s=>s
 | _,_,_,_,.cons r t,s=>.cons r (Vals.append t s)
theorem Vals.take:∀{xs:List V} {us:List Value} (n:Nat),Vals xs us->Vals (xs.take n) (us.take n)
 | _,_,0,_=>.nil
 | _,_,_+1,.nil=>.nil
 | _,_,n+1,.cons r t=>.cons r (Vals.take n t)
theorem Vals.drop:∀{xs:List V} {us:List Value} (n:Nat),Vals xs us->Vals (xs.drop n) (us.drop n)
 | _,_,0,r=>r
 | _,_,_+1,.nil=>.nil
 | _,_,n+1,.cons _ t=>Vals.drop n t
def pS:Option V->Option Value->Prop
 | some v,some u=>RelV v u
 | none,none=>True
 | _,_=>False
def KV{Z:Type}:List (Z×V)->List (Z×Value)->Prop:=Paired λ(p:Z×V) (q:Z×Value)=>p.1=q.1/\RelV p.2 q.2
noncomputable def kV:Key->V
 | .inl i=>.int i
 | .inr x=>.str x
inductive HO where
 | lst (xs:List V)
 | tup (xs:List V)
 | dK (kvs:List (Key×V))|dT (kvs:List (List Key×V))
 | set (S:Int->Bool) (n:Nat)
 | ins (C dx:Addr) (fs:List (Str×V))
 | own (x:Addr)
 | xd (fs:List (Str×V))
 | met (f x:Addr)
 | Mp (lo hi:Int)
 | oh (o:Obj) (u:HO)
 | Kn (ps:Array Value)
 | ext (Z:Heap->Prop)
abbrev Hp:=Addr->Option HO
def upd(H:Hp)(a:Addr)(o:HO):Hp:=λb=>if b=a then some o else H b
theorem a_{H:Hp}{a:Addr}{o:HO}:upd H a o a=some o:=by unfold upd;rw[aag rfl]
theorem de{H:Hp}{a b:Addr}{o:HO}(h:b≠a):upd H a o b=H b:=by unfold upd;rw[aac h]
theorem KH{H:Hp}{a:Addr}{o u:HO}:upd (upd H a o) a u=upd H a u:=by
 funext b;unfold upd;split<;>rfl
theorem jc{H:Hp}{a b:Addr}{o u:HO}(h:H a=some o)(h':H b=some u)(d:o≠u):a≠b:=by
 intro e;subst e;rw[h] at h';exact d (aal h')
theorem gc{H:Hp}{a b:Addr}{o:HO}(h:H a=some o)(h':H b=none):a≠b:=by
 intro e;subst e;rw[h] at h';cases h'
section
variable(P:Program)(w:World)
def iR(H:Hp)(h:Heap)(a:Addr):HO->Prop
 | .lst xs=>xs.length<=sizeLine/\∃(ib:List Value)(n:Nat),Vals xs ib/\h.get? a=some {cls:=.type "list",data:=.seq ib.toArray n}
 | .tup xs=>xs.length<=sizeLine/\∃ib:List Value,Vals xs ib/\IsTup h a ib.toArray
 | .dK kvs=>kvs.length<=sizeLine/\(a ==sysModules)=false/\∃vs,KV kvs vs/\h.DictOf (ja P w) a vs
 | .dT kvs=>kvs.length<=sizeLine/\(a ==sysModules)=false/\∃xs:List (List Key×Addr×Value),
  Paired (λ(p:List Key×V) (q:List Key×Addr×Value)=>p.1=q.1/\H q.2.1=some (.tup (p.1.map kV))/\RelV p.2 q.2.2) kvs xs/\
  ∃o es ep,h.get? a=some o/\o.ExactDict/\o.data=.dict es ep/\es.toList=xs.map (entryOfKey (tupleKind (ja P w)))/\(xs.map (·.1)).Nodup
 | .set S n=>h.SetOf (intKind P w) a S n
 | .ins C dx fs=>H dx=some (.own a)/\fs.length<=1000/\dx≠a/\h.get? a=some (W.instObj C dx)/\
  ∃mA,h.Ns1 dx mA/\(∀f,pS (fs.lookup f) (mA f))/\PySem.Within mA (fs.map (·.1))
 | .own _=>∃o,h.get? a=some o
 | .xd fs=>∃mA,h.Ns1 a mA/\∀f,pS (fs.lookup f) (mA f)
 | .Mp lo hi=>∃t u v,h.get? a=some {cls:=.type "range",data:=.fields #[.int lo t,.int hi u,.int 1 v]}
 | .oh o u=>h.get? a=some o/\iR H h a u
 | .Kn ps=>h.get? a=some {cls:=.none,data:=.fields ps}
 | .met f x=>h.get? a=some (W.methodObj (.ref f) (.ref x))
 | .ext Z=>Z h/\(∃o,h.get? a=some o)/\∀h1 h2:Heap,Z h1->(∀o,h1.get? a=some o->h2.get? a=some o)->Z h2
def qD(H:Hp)(h:Heap):Prop:=∀a o,H a=some o->iR P w H h a o
end
section
variable{P:Program}{w:World}{H H':Hp}{h h':Heap}{a:Addr}{o:HO}
theorem iR.lt(x:iR P w H h a o):a<h.objs.size:=by
 cases o with
 | lst xs=>obtain⟨_,_,_,_,e⟩:=x;exact aak e
 | tup xs=>obtain⟨_,_,_,p⟩:=x;exact p.lt
 | dK kvs=>obtain⟨_,_,_,_,o,_,_,e,_⟩:=x;exact aak e
 | dT kvs=>obtain⟨_,_,_,_,o,_,_,e,_⟩:=x;exact aak e
 | set S n=>obtain⟨o,_,_,_,e,_⟩:=x;exact aak e
 | ins C dx fs=>obtain⟨_,_,_,e,_⟩:=x;exact aak e
 | own y=>obtain⟨_,e⟩:=x;exact aak e
 | xd fs=>obtain⟨_,⟨_,_,_,e,_⟩,_⟩:=x;exact aak e
 | Mp lo hi=>obtain⟨_,_,_,e⟩:=x;exact aak e
 | oh ob u=>obtain⟨e,_⟩:=x;exact aak e
 | Kn ps=>exact aak (show h.get? a=some _ from x)
 | met f y=>exact aak (show h.get? a=some _ from x)
 | ext Z=>obtain⟨_,⟨_,e⟩,_⟩:=x;exact aak e
theorem Paired.j0{Z Y:Type}{F G:Z->Y->Prop}:∀{l1:List Z} {l2:List Y},Paired F l1 l2->(∀a b,F a b->G a b)->Paired G l1 l2
 | _,_,.nil,_=>.nil
 | _,_,.cons r t,f=>.cons (f _ _ r) (Paired.j0 t f)
theorem iR.qU(x:iR P w H h a o)(k:∀b u,(b=a\/H b=some (.own a))->h.get? b=some u->h'.get? b=some u)
  (ho:∀b,H b=some (.own a)->H' b=some (.own a)) (ht:∀b xs,H b=some (.tup xs)->H' b=some (.tup xs)):iR P w H' h' a o:=by
 induction o with
 | lst xs=>obtain⟨z,ib,n,r,e⟩:=x;exact⟨z,ib,n,r,k _ _ (.inl rfl) e⟩
 | tup xs=>obtain⟨z,ib,r,ob,e,c⟩:=x;exact⟨z,ib,r,ob,k _ _ (.inl rfl) e,c⟩
 | dK kvs=>obtain⟨z,y,vs,r,ob,es,ep,e,c⟩:=x;exact⟨z,y,vs,r,ob,es,ep,k _ _ (.inl rfl) e,c⟩
 | dT kvs=>
  obtain⟨z,y,xs,r,ob,es,ep,e,c⟩:=x
  exact⟨z,y,xs,Paired.j0 r λp q z=>⟨z.1,ht _ _ z.2.1,z.2.2⟩,ob,es,ep,k _ _ (.inl rfl) e,c⟩
 | set S n=>obtain⟨ob,es,ep,t,e,c⟩:=x;exact⟨ob,es,ep,t,k _ _ (.inl rfl) e,c⟩
 | ins C dx fs=>
  obtain⟨d,z,ne,e,mA,⟨od,es,ep,e2,c⟩,r⟩:=x
  exact⟨ho _ d,z,ne,k _ _ (.inl rfl) e,mA,⟨od,es,ep,k _ _ (.inr d) e2,c⟩,r⟩
 | own y=>obtain⟨ob,e⟩:=x;exact⟨ob,k _ _ (.inl rfl) e⟩
 | xd fs=>obtain⟨mA,⟨od,es,ep,e,c⟩,r⟩:=x;exact⟨mA,⟨od,es,ep,k _ _ (.inl rfl) e,c⟩,r⟩
 | Mp lo hi=>obtain⟨t,u,v,e⟩:=x;exact⟨t,u,v,k _ _ (.inl rfl) e⟩
 | oh ob u ih=>obtain⟨e,q⟩:=x;exact⟨k _ _ (.inl rfl) e,ih q⟩
 | Kn ps=>
  have e:h.get? a=some {cls:=.none,data:=.fields ps}:=x
  show h'.get? a=some {cls:=.none,data:=.fields ps}
  exact k a _ (.inl rfl) e
 | met f y=>
  have e:h.get? a=some (W.methodObj (.ref f) (.ref y)):=x
  show h'.get? a=some (W.methodObj (.ref f) (.ref y))
  exact k a _ (.inl rfl) e
 | ext Z=>obtain⟨p,⟨o,e⟩,st⟩:=x;exact⟨st _ _ p λo q=>k _ _ (.inl rfl) q,⟨o,k _ _ (.inl rfl) e⟩,st⟩
theorem qD.lt(x:qD P w H h)(e:H a=some o):a<h.objs.size:=(x a o e).lt
theorem qD.fresh(x:qD P w H h)(e:h.objs.size<=a):H a=none:=by
 cases q:H a with
 | none=>rfl
 | some u=>exact absurd (aaw (x.lt q) e) (abj _)
theorem qD.kept(x:qD P w H h)(k:∀b u,h.get? b=some u->h'.get? b=some u):qD P w H h':=λa o e=>
 (x a o e).qU (λb u _ q=>k b u q) (λ_ q=>q) λ_ _ q=>q
theorem qD.laid(x:qD P w H h)(k:∀b u,h.get? b=some u->h'.get? b=some u)(hp:h.objs.size<=a)(new:iR P w (upd H a o) h' a o):qD P w (upd H a o) h':=λb u e=>by
 have hn:=x.fresh hp
 by_cases hb:b=a
 ·subst hb;rw[a_] at e;cases e;exact new
 ·rw[de hb] at e
  exact(x b u e).qU (λc v _ q=>k c v q) (λc q=>by rw[de (gc q hn)];exact q) λc xs q=>by rw[de (gc q hn)];exact q
end
def Rd(H:Hp)(a:Addr)(u:HO):Prop:=H a=some u\/∃o,H a=some (.oh o u)
theorem Rd.ok{P:Program}{w:World}{H:Hp}{h:Heap}{a:Addr}{u:HO}(r:Rd H a u)(x:qD P w H h):iR P w H h a u:=by
 rcases r with r|⟨o,r⟩
 ·exact x a u r
 ·obtain⟨_,q⟩:=x a _ r
  exact q
def Mq:Option HO->Prop
 | some (.lst _)=>True
 | some (.dK _)=>True
 | some (.dT _)=>True
 | some (.set _ _)=>True
 | some (.ins _ _ _)=>True
 | some (.ext _)=>True
 | _=>False
section
variable{P:Program}{w:World}{H:Hp}{h h':Heap}{x e:Addr}{o':HO}
theorem qD.write(ok:qD P w H h)(mu:Mq (H x))(he:e=x\/H e=some (.own x))(k:∀b u,b≠e->h.get? b=some u->h'.get? b=some u)(JS:∃u,h'.get? e=some u)
  (new:iR P w (upd H x o') h' x o'):qD P w (upd H x o') h':=λb u q=>by
 have Rz:∀c y,H c=some (.own y)->c≠x:=λc y r z=>by subst z;rw[r] at mu;exact mu
 have Vx:∀c xs,H c=some (.tup xs)->c≠x:=λc xs r z=>by subst z;rw[r] at mu;exact mu
 by_cases hb:b=x
 ·subst hb;rw[a_] at q;cases q;exact new
 ·rw[de hb] at q
  by_cases OO:b=e
  ·have q':H b=some (.own x):=by
    rcases he with z|z
    ·exact absurd (OO.trans z) hb
    ·rw[OO];exact z
   rw[q] at q';cases q'
   obtain⟨v,hv⟩:=JS
   exact⟨v,by rw[OO];exact hv⟩
  ·refine(ok b u q).qU (λc v hc r=>k c v ?_ r) (λc r=>by rw[de (Rz c b r)];exact r) λc xs r=>by rw[de (Vx c xs r)];exact r
   rcases hc with rfl|hc
   ·exact OO
   ·rintro rfl
    rcases he with z|z
    ·exact Rz c b hc z
    ·rw[hc] at z;cases z;exact hb rfl
end
structure Un(fs ex:List Addr)(H H':Hp)(h h':Heap):Prop where
 keep:∀b o,h.get? b=some o->H b=none->b∉fs->b∉ex->h'.get? b=some o
 slot:∀b o,h.get? b=some o->H b=none->b∈fs->b∉ex->∃sl,h'.get? b=some {o with slots:=sl}
 free:∀b o,h.get? b=some o->H b=none->b∉ex->H' b=none
 there:∀b o,h.get? b=some o->b∉ex->∃o',h'.get? b=some o'
 pT:∀b xs,H b=some (.tup xs)->H' b=some (.tup xs)
 tV:∀b o u,H b=some (.oh o u)->H' b=some (.oh o u)
 vK:∀b ps,H b=some (.Kn ps)->∃more,H' b=some (.Kn (ps++more))
section
variable{fs fs' ex ex':List Addr}{H H1 H2:Hp}{h h1 h2 h':Heap}{a x e:Addr}{o:HO}
theorem Un.any(u:Un fs ex H H1 h h1){b:Addr}{ob:Obj}(q:h.get? b=some ob)(n:H b=none)(hx:b∉ex):∃sl,h1.get? b=some {ob with slots:=sl}:=by
 by_cases hb:b∈fs
 ·exact u.slot b ob q n hb hx
 ·exact⟨ob.slots,u.keep b ob q n hb hx⟩
theorem Un.kept(k:∀b u,h.get? b=some u->h'.get? b=some u):Un fs ex H H h h':=
 ⟨λb ob q _ _ _=>k b ob q,λb ob q _ _ _=>⟨ob.slots,k b ob q⟩,λ_ _ _ n _=>n,λb ob q _=>⟨ob,k b ob q⟩,λ_ _ q=>q,λ_ _ _ q=>q,λ_ ps q=>⟨#[],by rw[q];simp⟩⟩
theorem Un.refl:Un fs ex H H h h:=Un.kept λ_ _ q=>q
theorem Un.laid(k:∀b u,h.get? b=some u->h'.get? b=some u)(hp:h.objs.size<=a)(hn:H a=none):Un fs ex H (upd H a o) h h' where
 keep:=λb u q _ _ _=>k b u q
 slot:=λb u q _ _ _=>⟨u.slots,k b u q⟩
 free:=λb u q n _=>by rw[de (aaD (aaw (aak q) hp))];exact n
 there:=λb u q _=>⟨u,k b u q⟩
 pT:=λb xs q=>by rw[de (gc q hn)];exact q
 tV:=λb u xs q=>by rw[de (gc q hn)];exact q
 vK:=λb ps q=>⟨#[],by rw[de (gc q hn),q];simp⟩
theorem Un.write(mu:Mq (H x))(he:e=x\/H e=some (.own x))(k:∀b u,b≠e->h.get? b=some u->h'.get? b=some u)(JS:∃u,h'.get? e=some u):Un fs ex H (upd H x o) h h':=by
 have hx:∀b,H b=none->b≠x:=λb n z=>by subst z;rw[n] at mu;exact mu
 have hb:∀b,H b=none->b≠e:=λb n z=>by
  subst z
  rcases he with r|r
  ·exact hx b n r
  ·rw[n] at r;cases r
 have hm:∀b u,H b=some u->¬Mq (some u)->b≠x:=λb u q nm z=>by subst z;rw[q] at mu;exact nm mu
 refine⟨λb u q n _ _=>k b u (hb b n) q,λb u q n _ _=>⟨u.slots,k b u (hb b n) q⟩,λb u q n _=>by rw[de (hx b n)];exact n,λb u q _=>?_,
  λb xs q=>by rw[de (hm b _ q λz=>z)];exact q,λb u xs q=>by rw[de (hm b _ q λz=>z)];exact q,λb ps q=>⟨#[],by rw[de (hm b _ q λz=>z),q];simp⟩⟩
 by_cases OO:b=e
 ·subst OO;exact JS
 ·exact⟨u,k b u OO q⟩
end
def Tt(h:Heap)(H:Hp):List Addr:=(List.range h.objs.size).filter λa=>(H a).isSome
def Bk(h:Heap)(H:Hp):Heap:=W.hideAll h (Tt h H)
theorem Gv(h:Heap)(H:Hp):(Bk h H).objs.size=h.objs.size:=W.hideAll_size _ _
theorem HJ{h:Heap}{H:Hp}{b:Addr}{o:Obj}(e:h.get? b=some o)(n:H b=none):(Bk h H).get? b=some o:=
 W.hideAll_get _ e λhm=>by
  have q:(H b).isSome=true:=(aah.mp hm).2
  rw[n] at q;simp at q
theorem KI{h:Heap}{H:Hp}{b:Addr}{o:Obj}(e:(Bk h H).get? b=some o):h.get? b=some o/\H b=none:=by
 have e':h.get? b=some o:=W.of_hideAll (Tt h H) e
 refine⟨e',?_⟩
 cases q:H b with
 | none=>rfl
 | some x=>
  have hm:b∈Tt h H:=aah.mpr ⟨List.mem_range.mpr (aak e'),by simp[q]⟩
  have z:(Bk h H).get? b=none:=W.hideAll_none (Tt h H) hm
  rw[z] at e;cases e
def KJ(g h:Heap)(L:Addr):Qqz:=(List.range h.objs.size).filterMap λa=>if a=L\/(g.get? a).isSome=true then none else(h.get? a).map λo=>(a,o)
def rest(g h:Heap)(L d:Addr):Qqz:=(KJ g h L).filter λp=>decide (p.1≠d)
structure Mod(K:Qqy)(mg:Qqx)(base:Heap):Prop where
 Py:K.In base
 glob:base.Ns mainGlobals mg
 blt:∃mb,base.Ns builtinsNs mb/\∀x:Str,x≠"__name__"->mb x=bootBuiltins x
 nolimit:base.NoLimit
structure Cx where
 prog:Program
 w:World
 K:Qqy
 mg:Qqx
 base:Heap
 A:Around
 N:List Str
 s₀:Shared
 H₀:Hp
 env:Env
 outer:List Env
 stack:List Env
 ex:List Addr
 fn:Str->Bool
 calm:Bool
 pn:Qqz
 xe:Qqq
def tm(l:List Env):List Addr:=l.filterMap (·.frame)
abbrev Cx.fs(X:Cx):List Addr:=tm X.outer
def UC(sc:Scope)(x:Str):Prop:=sc.names.lookup x=some .local\/sc.names.lookup x=some .cell\/sc.names.lookup x=some .free
def Loc(sc:Scope)(x:Str):Prop:=sc.names.lookup x=some .local\/sc.names.lookup x=some .cell
def Look(env:Env)(h:Heap)(m:Qqx)(x:Str)(u:Value):Prop:=
 (env.kindOf x=some .local/\m x=some u)\/((env.kindOf x=some .cell\/env.kindOf x=some .free)/\∃c,env.cells.lookup x=some c/\h.IsCell c (some u))
structure Cx.Ok(X:Cx):Prop where
 mod:Mod X.K X.mg X.base
 kind:X.env.scope.kind=.function
 glob:X.env.globals=mainGlobals
 blt:X.env.builtins=builtinsNs
 above:X.s₀.heap.objs.size<=X.env.locals
 inj:∀x y c,X.env.cells.lookup x=some c->X.env.cells.lookup y=some c->x=y
 has:∀x,(X.env.kindOf x=some .cell\/X.env.kindOf x=some .free)->∃c,X.env.cells.lookup x=some c
 Pz:∀x c,X.fn x=true->X.env.cells.lookup x=some c->X.s₀.heap.objs.size<=c
 hd:X.calm=true->X.A.handled=none
 frames:X.A.frames=some X.stack
 Ql:X.stack=X.outer\/(X.stack=X.env::X.outer/\X.env.frame=some X.env.locals)
 UD:∀b∈X.ex,b≠X.env.locals/\∀x c,X.env.cells.lookup x=some c->c≠b
 bs:∀b o,X.base.get? b=some o->X.s₀.heap.get? b=some o/\X.H₀ b=none
 Ko:X.base.objs.size<=X.s₀.heap.objs.size
 sR:∀b o,X.base.get? b=some o->b∉X.ex
 HK:∀b∈X.ex,b∉X.fs
 tW:X.s₀.heap.FunFrames X.base X.outer
 Kq:∀b∈X.fs,X.H₀ b=none
structure Inv(X:Cx)(b_:Qqz)(Z:List (Option V))(H:Hp)(s:Shared):Prop where
 ok:X.Ok
 os:s.os=X.s₀.os
 bare:AllBare s.gens
 base:Un X.fs X.ex X.H₀ H X.s₀.heap s.heap
 loc:∃m,s.heap.Ns X.env.locals m/\∀(i:Nat)(x:Str)(v:V),X.N[i]?=some x->Z[i]?=some (some v)->UC X.env.scope x->∃u,RelV v u/\Look X.env s.heap m x u
 cell:∀x c,X.env.cells.lookup x=some c->∃v,s.heap.IsCell c v
 free:H X.env.locals=none
 oj:∀x c,X.env.cells.lookup x=some c->H c=none
 pin:∀p∈X.pn++b_,s.heap.get? p.1=some p.2/\H p.1=none/\p.1≠X.env.locals/\p.1∉X.fs/\∀v,p.2.data≠.cell v
 iC:qD X.prog X.w H s.heap
 len:Z.length=X.N.length
section
variable{X:Cx}{b_:Qqz}{Z:List (Option V)}{H H':Hp}{s:Shared}{h':Heap}
theorem Cx.Ok.KL(ok:X.Ok){b:Addr}{o:Obj}(e:X.base.get? b=some o):b∉X.fs:=λhb=>by
 have:=(ok.tW.mem hb).1
 rw[e] at this;cases this
theorem Inv.bs(I:Inv X b_ Z H s):∀b o,X.base.get? b=some o->s.heap.get? b=some o/\H b=none:=λb o e=>
 ⟨I.base.keep b o (I.ok.bs b o e).1 (I.ok.bs b o e).2 (I.ok.KL e) (I.ok.sR b o e),I.base.free b o (I.ok.bs b o e).1 (I.ok.bs b o e).2 (I.ok.sR b o e)⟩
theorem Inv.bk(I:Inv X b_ Z H s):∀b o,X.base.get? b=some o->s.heap.get? b=some o:=λb o e=>(I.bs b o e).1
theorem Inv.mod(I:Inv X b_ Z H s):Mod X.K X.mg X.base:=I.ok.mod
theorem Inv.wZ(I:Inv X b_ Z H s):X.K.In s.heap:=I.ok.mod.Py.keeps I.bk
theorem Inv.lt(I:Inv X b_ Z H s):X.env.locals<s.heap.objs.size:=let ⟨_,hn,_⟩:=I.loc;hn.lt
theorem Inv.sz(I:Inv X b_ Z H s):X.s₀.heap.objs.size<=s.heap.objs.size:=aao I.ok.above (Nat.le_of_lt I.lt)
theorem Inv.Qm(I:Inv X b_ Z H s){a:Addr}(h:s.heap.objs.size<=a):a∉X.fs:=λhb=>by
 obtain⟨_,o,ho,_⟩:=I.ok.tW.mem hb
 exact absurd (aaw (aak ho) (aao I.sz h)) (abj _)
theorem Inv.Ni(I:Inv X b_ Z H s):∀x c,X.env.cells.lookup x=some c->c≠X.env.locals:=λx c e z=>by
 obtain⟨v,o,ho,hd⟩:=I.cell x c e
 obtain⟨m,⟨o',es,ep,qr,Vy,_⟩,_⟩:=I.loc
 rw[z,qr] at ho;cases ho;rw[Vy] at hd;cases hd
theorem Inv.tW(I:Inv X b_ Z H s):s.heap.FunFrames X.base X.outer:=by
 have all:∀(l:List Env),(∀b∈tm l,b∈X.fs)->X.s₀.heap.FunFrames X.base l->s.heap.FunFrames X.base l:=by
  intro l
  induction l with
  | nil=>intro _ _;trivial
  | cons env r ih=>
   intro hs hl
   obtain⟨hk,⟨L,o,hf,hn,ho,hd⟩,hr⟩:=hl
   have hL:L∈X.fs:=hs L (by unfold tm;rw[abH,hf];exact aae)
   obtain⟨sl,e⟩:=I.base.slot L o ho (I.ok.Kq L hL) hL λz=>I.ok.HK L z hL
   exact⟨hk,⟨L,_,hf,hn,e,hd⟩,ih (λb hb=>hs b (by unfold tm;rw[abH,hf];exact YE _ hb)) hr⟩
 exact all X.outer (λ_ hb=>hb) I.ok.tW
theorem Inv.stack(I:Inv X b_ Z H s):s.heap.FunFrames X.base X.stack:=by
 rcases I.ok.Ql with e|⟨e,hf⟩
 ·rw[e];exact I.tW
 ·rw[e]
  obtain⟨m,hn,_⟩:=I.loc
  refine .cons (by rw[I.ok.kind];decide) hf hn ?_ I.tW
  exact Heap.get?_none_of_le (aao I.ok.Ko I.ok.above)
theorem Inv.vL(I:Inv X b_ Z H s):∀b∈tm X.stack,b∈X.env.locals::X.fs:=λb hb=>by
 rcases I.ok.Ql with e|⟨e,hf⟩
 ·rw[e] at hb;exact YE _ hb
 ·rw[e] at hb
  unfold tm at hb
  rw[abH,hf] at hb
  exact hb
theorem Inv.Bl(I:Inv X b_ Z H s):∀b∈tm X.stack,H b=none:=λb hb=>by
 rcases V9.mp (I.vL b hb) with e|hb
 ·rw[e];exact I.free
 ·obtain⟨_,o,ho,_⟩:=I.ok.tW.mem hb
  exact I.base.free b o ho (I.ok.Kq b hb) λz=>I.ok.HK b z hb
theorem Inv.step{g':Array GenState}{t':Nat}{d':Drawn}{ch:List Addr}(I:Inv X b_ Z H s)
  (Kv:∀b∈ch,(b∈X.ex\/X.s₀.heap.objs.size<=b)/\b≠X.env.locals/\(∀x c,X.env.cells.lookup x=some c->c≠b)/\∀p∈X.pn++b_,p.1≠b)
  (keep:∀b o,b≠X.env.locals->b∉X.fs->b∉ch->s.heap.get? b=some o->H b=none->h'.get? b=some o)
  (slot:∀b o,b≠X.env.locals->b∈X.fs->b∉ch->s.heap.get? b=some o->H b=none->∃sl,h'.get? b=some {o with slots:=sl}) (free:∀b o,b∉ch->s.heap.get? b=some o->H b=none->H' b=none)
  (there:∀b o,b∉ch->s.heap.get? b=some o->∃o',h'.get? b=some o')
  (pT:∀b xs,H b=some (.tup xs)->H' b=some (.tup xs)) (tV:∀b o u,H b=some (.oh o u)->H' b=some (.oh o u)) (vK:∀b ps,H b=some (.Kn ps)->∃more,H' b=some (.Kn (ps++more)))
  (ns:∀m,s.heap.Ns X.env.locals m->h'.Ns X.env.locals m) (iC:qD X.prog X.w H' h') (hg:AllBare g') :
  Inv X b_ Z H' {s with heap:=h',gens:=g',drawn:=d',toks:=t'}:=by
 have YM:∀b o,X.s₀.heap.get? b=some o->b≠X.env.locals:=λb o e=>aaD (aaw (aak e) I.ok.above)
 have TK:∀b o,X.s₀.heap.get? b=some o->b∉X.ex->b∉ch:=λb o e hx hb=>by
  rcases(Kv b hb).1 with z|z
  ·exact hx z
  ·exact absurd (aaw (aak e) z) (abj _)
 have cellK:∀x c,X.env.cells.lookup x=some c->∀v,s.heap.IsCell c v->h'.IsCell c v:=λx c e v ⟨o,ho,hd⟩=>by
  have RA:c∉ch:=λz=>(Kv c z).2.2.1 x c e rfl
  by_cases hc:c∈X.fs
  ·obtain⟨sl,q⟩:=slot c o (I.Ni x c e) hc RA ho (I.oj x c e)
   exact⟨_,q,hd⟩
  ·exact⟨o,keep c o (I.Ni x c e) hc RA ho (I.oj x c e),hd⟩
 refine⟨I.ok,I.os,hg,⟨λb o e n hb hx=>?_,λb o e n hb hx=>?_,λb o e n hx=>?_,λb o e hx=>?_,λb xs e=>pT b xs (I.base.pT b xs e),λb o xs e=>tV b o xs (I.base.tV b o xs e),λb ps e=>?_⟩,?_,λx c e=>?_,?_,λx c e=>?_,λp hp=>?_,iC,I.len⟩
 ·exact keep b o (YM b o e) hb (TK b o e hx) (I.base.keep b o e n hb hx) (I.base.free b o e n hx)
 ·obtain⟨sl,e1⟩:=I.base.slot b o e n hb hx
  obtain⟨sl',e2⟩:=slot b _ (YM b o e) hb (TK b o e hx) e1 (I.base.free b o e n hx)
  exact⟨sl',e2⟩
 ·obtain⟨o',e1⟩:=I.base.there b o e hx
  exact free b o' (TK b o e hx) e1 (I.base.free b o e n hx)
 ·obtain⟨o',e1⟩:=I.base.there b o e hx
  exact there b o' (TK b o e hx) e1
 ·obtain⟨m1,e1⟩:=I.base.vK b ps e
  obtain⟨m2,e2⟩:=vK b _ e1
  exact⟨m1++m2,by rw[e2,Array.append_assoc]⟩
 ·obtain⟨m,hn,hl⟩:=I.loc
  refine⟨m,ns m hn,λi x v e1 e2 e3=>?_⟩
  obtain⟨u,r,l⟩:=hl i x v e1 e2 e3
  refine⟨u,r,?_⟩
  rcases l with l|⟨k,c,e,z⟩
  ·exact .inl l
  ·exact .inr ⟨k,c,e,cellK x c e _ z⟩
 ·obtain⟨v,z⟩:=I.cell x c e
  exact⟨v,cellK x c e v z⟩
 ·obtain⟨m,⟨o,_,_,ho,_⟩,_⟩:=I.loc
  exact free _ o (λz=>(Kv _ z).2.1 rfl) ho I.free
 ·obtain⟨v,o,ho,hd⟩:=I.cell x c e
  exact free c o (λz=>(Kv c z).2.2.1 x c e rfl) ho (I.oj x c e)
 ·obtain⟨e,n,ne,nf,d⟩:=I.pin p hp
  have RA:p.1∉ch:=λz=>(Kv p.1 z).2.2.2 p hp rfl
  exact⟨keep p.1 p.2 ne nf RA e n,free p.1 p.2 RA e n,ne,nf,d⟩
theorem Inv.un{t':Nat}(I:Inv X b_ Z H s)(u:Un X.fs [] H H' s.heap h')(iC:qD X.prog X.w H' h'):Inv X b_ Z H' {s with heap:=h',toks:=t'}:=by
 obtain⟨m,⟨o,es,ep,ho,r⟩,_⟩:=id I.loc
 obtain⟨sl,hL⟩:=u.any ho I.free (by simp)
 exact I.step (g':=s.gens) (d':=s.drawn) (ch:=[]) (λ_ z=>nomatch z) (λb o _ hb _ e n=>u.keep b o e n hb (by simp)) (λb o _ hb _ e n=>u.slot b o e n hb (by simp)) (λb o _ e n=>u.free b o e n (by simp)) (λb o _ e=>u.there b o e (by simp)) u.pT u.tV u.vK (λm' hm=>by
  obtain⟨o',es',MN,qr,r'⟩:=hm
  rw[ho] at qr;cases qr
  exact⟨_,es',MN,hL,r'⟩) iC I.bare
theorem Inv.call{g':Array GenState}{t':Nat}{d':Drawn}{ch:List Addr}(I:Inv X b_ Z H s)(u:Un (tm X.stack) ch H H' s.heap h')(iC:qD X.prog X.w H' h')(hg:AllBare g')
  (Kv:∀b∈ch,(b∈X.ex\/X.s₀.heap.objs.size<=b)/\b≠X.env.locals/\(∀x c,X.env.cells.lookup x=some c->c≠b)/\∀p∈X.pn++b_,p.1≠b) :
  Inv X b_ Z H' {s with heap:=h',gens:=g',drawn:=d',toks:=t'}:=by
 obtain⟨m,⟨o,es,ep,ho,r⟩,_⟩:=id I.loc
 obtain⟨sl,hL⟩:=u.any ho I.free λz=>(Kv _ z).2.1 rfl
 exact I.step (ch:=ch) Kv (λb o hL hb hc e n=>u.keep b o e n (λz=>(V9.mp (I.vL b z)).elim hL hb) hc) (λb o _ _ hc e n=>u.any e n hc) (λb o hc e n=>u.free b o e n hc) (λb o hc e=>u.there b o e hc) u.pT u.tV u.vK (λm' hm=>by
  obtain⟨o',es',MN,qr,r'⟩:=hm
  rw[ho] at qr;cases qr
  exact⟨_,es',MN,hL,r'⟩) iC hg
theorem Inv.turned{t':Nat}{it:Addr}(I:Inv X b_ Z H s)(k:∀b o,b≠it->s.heap.get? b=some o->h'.get? b=some o)(hn:H it=none)(hL:it≠X.env.locals)
  (h1:it∈X.ex\/X.s₀.heap.objs.size<=it) (h2:∀x c,X.env.cells.lookup x=some c->c≠it) (h3:∀p∈X.pn++b_,p.1≠it):Inv X b_ Z H {s with heap:=h',toks:=t'}:=by
 have YN:∀b u,H b=some u->b≠it:=λb u e z=>by rw[z,hn] at e;cases e
 refine I.step (g':=s.gens) (d':=s.drawn) (ch:=[it]) (λb hb=>?_) (λb o _ _ hc e _=>k b o (λz=>hc (by simp[z])) e) (λb o _ _ hc e _=>⟨o.slots,k b o (λz=>hc (by simp[z])) e⟩) (λ_ _ _ _ n=>n)
  (λb o hc e=>⟨o,k b o (λz=>hc (by simp[z])) e⟩) (λ_ _ e=>e) (λ_ _ _ e=>e) (λb ps e=>⟨#[],by rw[e];simp⟩) (λm hm=>?_) (λb u e=>?_) I.bare
 ·have e:b=it:=by simpa using hb
  subst e
  exact⟨h1,hL,h2,h3⟩
 ·obtain⟨o,es,ep,ho,r⟩:=hm
  exact⟨o,es,ep,k _ o (abE hL) ho,r⟩
 ·refine(I.iC b u e).qU (λc v hc q=>k c v ?_ q) (λ_ q=>q) λ_ _ q=>q
  rcases hc with z|z
  ·rw[z];exact YN b u e
  ·exact YN c _ z
theorem Inv.tok(I:Inv X b_ Z H s)(t:Nat):Inv X b_ Z H {s with toks:=t}:=I.un (h':=s.heap) (t':=t) Un.refl I.iC
theorem Inv.kept{t':Nat}(I:Inv X b_ Z H s)(k:∀b u,s.heap.get? b=some u->h'.get? b=some u):Inv X b_ Z H {s with heap:=h',toks:=t'}:=I.un (Un.kept k) (I.iC.kept k)
theorem Inv.laid{a:Addr}{o:HO}{t':Nat}(I:Inv X b_ Z H s)(k:∀b u,s.heap.get? b=some u->h'.get? b=some u)(hp:s.heap.objs.size<=a)(new:iR X.prog X.w (upd H a o) h' a o) :
 Inv X b_ Z (upd H a o) {s with heap:=h',toks:=t'}:=I.un (Un.laid k hp (I.iC.fresh hp)) (I.iC.laid k hp new)
theorem Inv.write{x e:Addr}{o:HO}{t':Nat}(I:Inv X b_ Z H s)(mu:Mq (H x))(he:e=x\/H e=some (.own x))(k:∀b u,b≠e->s.heap.get? b=some u->h'.get? b=some u)(JS:∃u,h'.get? e=some u)
 (new:iR X.prog X.w (upd H x o) h' x o):Inv X b_ Z (upd H x o) {s with heap:=h',toks:=t'}:=I.un (Un.write mu he k JS) (I.iC.write mu he k JS new)
theorem Inv.yd{MO:Qqz}(I:Inv X b_ Z H s)(h:∀p∈MO,s.heap.get? p.1=some p.2/\H p.1=none/\p.1≠X.env.locals/\p.1∉X.fs/\∀v,p.2.data≠.cell v):Inv X MO Z H s:=
 ⟨I.ok,I.os,I.bare,I.base,I.loc,I.cell,I.free,I.oj,λp hp=>(YD.mp hp).elim (λz=>I.pin p (aan _ z)) (h p),I.iC,I.len⟩
theorem CQ{N:List Str}(hN:N.Nodup){i j:Nat}{x:Str}(a:N[i]?=some x)(b:N[j]?=some x):i=j:=by
 obtain⟨h1,e1⟩:=List.getElem?_eq_some_iff.mp a
 obtain⟨h2,e2⟩:=List.getElem?_eq_some_iff.mp b
 exact(List.getElem_inj hN).mp (e1.trans e2.symm)
theorem AD{M:Model}{A:Around}{E:Qqq}{i:Nat}{x:Str}{v:V}{u:Value}{Q:Unit->Shared->Prop}(I:Inv X b_ Z H s)(hN:X.N.Nodup)(hi:X.N[i]?=some x)(hx:Loc X.env.scope x)(r:RelV v u)
  (h:∀s',Inv X b_ (Z.set i (some v)) H s'->(∃a,Heap.SameBut a s.heap s'.heap/\(a=X.env.locals\/X.env.cells.lookup x=some a))->Q () s') (hf:X.fn x=true\/X.env.scope.names.lookup x=some .local:=by first|exact .inl rfl|exact .inr rfl|assumption):wpAny M A (storeName X.env x u) Q E s:=by
 obtain⟨m,hn,hl⟩:=id I.loc
 have Vz:(X.env.scope.kind ==.class||(X.env.scope.kind ==.module&&X.env.locals != X.env.globals))=false:=by rw[I.ok.kind];rfl
 have YO:i<Z.length:=by rw[I.len];exact(List.getElem?_eq_some_iff.mp hi).1
 have Ni:=I.Ni
 have tracked:∀{a:Addr} {h':Heap},(∃o,s.heap.get? a=some o/\H a=none)->Heap.SameBut a s.heap h'->qD X.prog X.w H h':=λ{a h'} ha hs b ob e=>by
  obtain⟨_,_,xQ⟩:=ha
  refine(I.iC b ob e).qU (λc w' hc q=>(hs.2 c ?_).trans q) (λ_ q=>q) λ_ _ q=>q
  rintro rfl
  rcases hc with rfl|hc
  ·rw[xQ] at e;cases e
  ·rw[xQ] at hc;cases hc
 rcases hx with hk|hk
 ·refine wpAny_storeName_local hk hn (λh' PY hs=>?_) Vz
  obtain⟨oL,_,_,RB,_⟩:=id hn
  refine h _ ⟨I.ok,I.os,I.bare,⟨λb o e n hb hx=>?_,λb o e n hb hx=>?_,I.base.free,λb o e hx=>?_,I.base.pT,I.base.tV,I.base.vK⟩,⟨_,PY,λj y v' e1 e2 e3=>?_⟩,λy c e=>?_,I.free,I.oj,λp hp=>?_,tracked ⟨oL,RB,I.free⟩ hs,by simpa using I.len⟩ ⟨_,hs,.inl rfl⟩
  ·exact(hs.2 b (aaD (aaw (aak e) I.ok.above))).trans (I.base.keep b o e n hb hx)
  ·obtain⟨sl,e1⟩:=I.base.slot b o e n hb hx
   exact⟨sl,(hs.2 b (aaD (aaw (aak e) I.ok.above))).trans e1⟩
  ·obtain⟨o',e1⟩:=I.base.there b o e hx
   exact⟨o',(hs.2 b (aaD (aaw (aak e) I.ok.above))).trans e1⟩
  ·by_cases hj:j=i
   ·subst hj
    rw[hi] at e1;cases e1
    rw[aa6 YO] at e2
    cases e2
    exact⟨u,r,.inl ⟨hk,by simp⟩⟩
   ·rw[abc (abE hj)] at e2
    obtain⟨u',r',q⟩:=hl j y v' e1 e2 e3
    refine⟨u',r',?_⟩
    rcases q with⟨k,e⟩|⟨k,c,e,z⟩
    ·refine .inl ⟨k,?_⟩
     have:y≠x:=λe=>hj (CQ hN e1 (e▸hi))
     simp[this,e]
    ·exact .inr ⟨k,c,e,z.sameBut hs (Ni y c e)⟩
  ·obtain⟨w',z⟩:=I.cell y c e
   exact⟨w',z.sameBut hs (Ni y c e)⟩
  ·obtain⟨e,n,ne,nf,d⟩:=I.pin p hp
   exact⟨(hs.2 p.1 ne).trans e,n,ne,nf,d⟩
 ·have VA:X.fn x=true:=by
   rcases hf with z|z
   ·exact z
   ·rw[z] at hk;cases hk
  obtain⟨c,hc⟩:=I.ok.has x (.inl hk)
  obtain⟨w',z⟩:=I.cell x c hc
  refine wpAny_storeName_cell I.ok.kind hk hc z (λh' Bf hs=>?_)
  obtain⟨oc,YQ,VB⟩:=id z
  refine h {s with heap:=h'} ⟨I.ok,I.os,I.bare,⟨λb o e n hb hx=>?_,λb o e n hb hx=>?_,I.base.free,λb o e hx=>?_,I.base.pT,I.base.tV,I.base.vK⟩,⟨m,hn.sameBut hs (abE (Ni x c hc)),λj y v' e1 e2 e3=>?_⟩,λy c' e=>?_,I.free,I.oj,λp hp=>?_,tracked ⟨oc,YQ,I.oj x c hc⟩ hs,by simpa using I.len⟩ ⟨c,hs,.inr hc⟩
  ·exact(hs.2 b (aaD (aaw (aak e) (I.ok.Pz x c VA hc)))).trans (I.base.keep b o e n hb hx)
  ·obtain⟨sl,e1⟩:=I.base.slot b o e n hb hx
   exact⟨sl,(hs.2 b (aaD (aaw (aak e) (I.ok.Pz x c VA hc)))).trans e1⟩
  ·obtain⟨o',e1⟩:=I.base.there b o e hx
   exact⟨o',(hs.2 b (aaD (aaw (aak e) (I.ok.Pz x c VA hc)))).trans e1⟩
  ·by_cases hj:j=i
   ·subst hj
    rw[hi] at e1;cases e1
    rw[aa6 YO] at e2
    cases e2
    exact⟨u,r,.inr ⟨.inl hk,c,hc,Bf⟩⟩
   ·rw[abc (abE hj)] at e2
    obtain⟨u',r',q⟩:=hl j y v' e1 e2 e3
    refine⟨u',r',?_⟩
    rcases q with q|⟨k,c',e,z'⟩
    ·exact .inl q
    ·refine .inr ⟨k,c',e,z'.sameBut hs ?_⟩
     rintro rfl
     exact hj (CQ hN e1 (I.ok.inj _ _ _ e hc▸hi))
  ·by_cases YR:c'=c
   ·subst YR;exact⟨_,Bf⟩
   ·obtain⟨w2,z2⟩:=I.cell y c' e
    exact⟨w2,z2.sameBut hs YR⟩
  ·obtain⟨e,n,ne,nf,d⟩:=I.pin p hp
   refine⟨(hs.2 p.1 ?_).trans e,n,ne,nf,d⟩
   intro q
   rw[q,YQ] at e
   have q':oc=p.2:=aal e
   exact d w' (by rw[<-q'];exact VB)
theorem CS{M:Model}{A:Around}{E:Qqq}{i:Nat}{x:Str}{v:V}{u:Value}{Q:Unit->Shared->Prop}(I:Inv X b_ Z H s)(hN:X.N.Nodup)(hi:X.N[i]?=some x)(hx:Loc X.env.scope x)(r:RelV v u)
  (h:∀s',Inv X b_ (Z.set i (some v)) H s'->Q () s') (hf:X.fn x=true\/X.env.scope.names.lookup x=some .local:=by first|exact .inl rfl|exact .inr rfl|assumption):wpAny M A (storeName X.env x u) Q E s:=
 AD I hN hi hx r (λs' I' _=>h s' I') hf
theorem Inv.Qn{s':Shared}{ch:List Addr}(I:Inv X b_ Z H s)(ho:s'.os=s.os)(u:Un (tm X.stack) ch H H' s.heap s'.heap)(iC:qD X.prog X.w H' s'.heap)(hg:AllBare s'.gens)
  (Kv:∀b∈ch,(b∈X.ex\/X.s₀.heap.objs.size<=b)/\b≠X.env.locals/\(∀x c,X.env.cells.lookup x=some c->c≠b)/\∀p∈X.pn++b_,p.1≠b):Inv X b_ Z H' s':=by
 obtain⟨h',g',d',t',o'⟩:=s'
 have e:o'=s.os:=ho
 subst e
 exact I.call (g':=g') (t':=t') (d':=d') u iC hg Kv
end
abbrev XK:=Value->Option Addr->Hp->Prop
abbrev St:=List (Option V)
abbrev VK:=V->Hp->Prop
abbrev TE:=St->Hp->VK->Prop
abbrev TT:=St->Hp->(Bool->Hp->Prop)->Prop
abbrev TA:=St->Hp->(List V->Hp->Prop)->Prop
structure Ends where
 nx:St->Hp->Prop
 rt:VK
 bk:St->Hp->Prop:=λ_ _=>False
 ct:St->Hp->Prop:=λ_ _=>False
abbrev TS:=Ends->St->Hp->Prop
def EP(X:Cx)(b_:Qqz)(Z:St)(Q:VK)(u:Value)(s':Shared):Prop:=∃v H',Inv X b_ Z H' s'/\RelV v u/\Q v H'
def TP(X:Cx)(b_:Qqz)(Z:St)(Q:Bool->Hp->Prop)(b:Bool)(s':Shared):Prop:=∃H',Inv X b_ Z H' s'/\Q b H'
def AP(X:Cx)(b_:Qqz)(Z:St)(Q:List V->Hp->Prop)(us:List Value)(s':Shared):Prop:=∃vs H',Inv X b_ Z H' s'/\Vals vs us/\Q vs H'
def SP(X:Cx)(b_:Qqz)(D:Ends)(f:Flow)(s':Shared):Prop:=
 match f with
 | .next=>∃Z' H',Inv X b_ Z' H' s'/\D.nx Z' H'
 | .brk=>∃Z' H',Inv X b_ Z' H' s'/\D.bk Z' H'
 | .cont=>∃Z' H',Inv X b_ Z' H' s'/\D.ct Z' H'
 | .ret u=>∃v Z' H',Inv X b_ Z' H' s'/\RelV v u/\D.rt v H'
def PE(X:Cx)(e:Expr)(t:TE):Prop:=
 ∀(b_:Qqz)(s:Shared)(Z:St)(H:Hp)(Q:VK),Inv X b_ Z H s->t Z H Q->wpAny (model X.prog X.w) X.A (eval e X.env) (EP X b_ Z Q) X.xe s
def PT(X:Cx)(e:Expr)(t:TT):Prop:=
 ∀(b_:Qqz)(s:Shared)(Z:St)(H:Hp)(Q:Bool->Hp->Prop),Inv X b_ Z H s->t Z H Q->wpAny (model X.prog X.w) X.A (isTrue e X.env (eval e X.env)) (TP X b_ Z Q) X.xe s
def PW(X:Cx)(e:Expr)(t:TT):Prop:=
 ∀(whole:Sem Value)(b_:Qqz)(s:Shared)(Z:St)(H:Hp)(Q:Bool->Hp->Prop),Inv X b_ Z H s->t Z H Q->wpAny (model X.prog X.w) X.A (isTrue e X.env whole) (TP X b_ Z Q) X.xe s
theorem PW.pt{X:Cx}{e:Expr}{t:TT}(h:PW X e t):PT X e t:=h _
def PA(X:Cx)(es:List Expr)(t:TA):Prop:=
 ∀(pos:Pos)(b_:Qqz)(s:Shared)(Z:St)(H:Hp)(Q:List V->Hp->Prop),Inv X b_ Z H s->t Z H Q->wpAny (model X.prog X.w) X.A (spliced (backTo pos (starEach es X.env))) (AP X b_ Z Q) X.xe s
def PS(X:Cx)(st:Stmt)(t:TS):Prop:=
 ∀(b_:Qqz)(s:Shared)(Z:St)(H:Hp)(D:Ends),Inv X b_ Z H s->t D Z H->wpAny (model X.prog X.w) X.A (exec st X.env) (SP X b_ D) X.xe s
def Ek(X:Cx)(st:List Stmt)(t:TS):Prop:=
 ∀(b_:Qqz)(s:Shared)(Z:St)(H:Hp)(D:Ends),Inv X b_ Z H s->t D Z H->wpAny (model X.prog X.w) X.A (execs st X.env) (SP X b_ D) X.xe s
theorem iX{Z:Type}{t:Sem Z}{Q Q':Z->Shared->Prop}{M:Model}{A:Around}{E:Qqq}{s:Shared}(h:wpAny M A t Q E s)(hQ:∀a s,Q a s->Q' a s):wpAny M A t Q' E s:=abu h hQ λ_ _ x=>x
section
variable{X:Cx}
inductive Qo(i:Nat)(Z:St)(H:Hp)(Q:VK):Prop
 | mk (v) (_:Z[i]?=some (some v)) (_:Q v H)
def tC(v:V):TE:=λ_ H Q=>Q v H
theorem Nj{i:Nat}{x:Str}{pos:Pos}(hN:X.N[i]?=some x)(hv:UC X.env.scope x)(hd:(x ==("__debug__":Str))=false:=by decide)(Bg:(x ==("__classdict__":Str))=false:=by decide):PE X (.Name x pos) (Qo i):=by
 intro b_ s Z H Q I h
 obtain⟨v,e,h⟩:=h
 obtain⟨m,hn,hl⟩:=I.loc
 obtain⟨u,r,l⟩:=hl i x v hN e hv
 have fin:EP X b_ Z Q u s:=⟨v,H,I,r,h⟩
 rcases l with⟨hk,hm⟩|⟨hk,c,hc,MP⟩
 ·exact wpAny_Name (wpAny_loadName_local I.ok.kind hk hn hm fin) hd
 ·rcases hk with hk|hk
  ·exact wpAny_Name (wpAny_loadName_cell I.ok.kind hk hc MP fin) hd
  ·exact wpAny_Name (wpAny_loadName_free I.ok.kind hk hc MP fin Bg) hd
theorem e_{i j pos}:PE X (.Constant (.int i) j pos) (tC (.int i)):=λ_ _ _ H _ I h=>wpAny_Constant_int ⟨.int i,H,I.tok _,⟨_,rfl⟩,h⟩
theorem mz{b j pos}:PE X (.Constant (.bool b) j pos) (tC (.bl b)):=λ_ _ _ H _ I h=>Constant_bool ⟨.bl b,H,I,rfl,h⟩
theorem vM{j pos}:PE X (.Constant .none j pos) (tC .jb):=λ_ _ _ H _ I h=>Constant_none ⟨.jb,H,I,rfl,h⟩
theorem jn{x j pos}:PE X (.Constant (.str x) j pos) (tC (.str x)):=λ_ _ _ H _ I h=>Calls.Constant_str ⟨.str x,H,I.tok _,⟨_,rfl⟩,h⟩
def Gl(X:Cx)(x:Str):Prop:=X.env.kindOf x=some .globalImplicit
theorem uA{E:Qqq}{b_:Qqz}{s:Shared}{Z:St}{H:Hp}{x:Str}{u:Value}{pos:Pos}{Q:Qqq}(I:Inv X b_ Z H s)(hg:Gl X x)(hm:X.mg x=some u)(h:Q u s)
  (hd:(x ==("__debug__":Str))=false:=by decide):wpAny (model X.prog X.w) X.A (eval (.Name x pos) X.env) Q E s:=
 Calls.Name_function_global I.ok.kind hg (Calls.loadGlobal_global (by rw[I.ok.glob];exact I.mod.glob.keeps I.bk) hm h) hd
theorem lT{E:Qqq}{b_:Qqz}{s:Shared}{Z:St}{H:Hp}{x:Str}{u:Value}{pos:Pos}{Q:Qqq}(I:Inv X b_ Z H s)(hg:Gl X x)(hm:X.mg x=none)(hv:bootBuiltins x=some u)(h:Q u s)
  (hn:x≠"__name__":=by decide) (hd:(x ==("__debug__":Str))=false:=by decide):wpAny (model X.prog X.w) X.A (eval (.Name x pos) X.env) Q E s:=by
 obtain⟨mb,h1,h2⟩:=I.mod.blt
 exact Calls.Name_function_global I.ok.kind hg (Calls.loadGlobal_builtin (by rw[I.ok.glob];exact I.mod.glob.keeps I.bk) hm (by rw[I.ok.blt];exact h1.keeps I.bk) ((h2 x hn).trans hv) h) hd
theorem Bm{x:Str}{v:V}{u:Value}{pos:Pos}(hg:Gl X x)(hm:X.mg x=some u)(r:RelV v u)(hd:(x ==("__debug__":Str))=false:=by decide):PE X (.Name x pos) (tC v):=
 λ_ _ _ H _ I h=>uA I hg hm ⟨v,H,I,r,h⟩ hd
theorem om{x:Str}{v:V}{u:Value}{pos:Pos}(hg:Gl X x)(hm:X.mg x=none)(hv:bootBuiltins x=some u)(r:RelV v u)(hn:x≠"__name__":=by decide)(hd:(x ==("__debug__":Str))=false:=by decide):PE X (.Name x pos) (tC v):=
 λ_ _ _ H _ I h=>lT I hg hm hv ⟨v,H,I,r,h⟩ hn hd
variable{a b:Expr}{ta tb:TE}{pos:Pos}
def PC(X:Cx)(op:CmpOp)(a b:Expr)(t:TE):Prop:=
 ∀(b_:Qqz)(s:Shared)(Z:St)(H:Hp)(Q:VK),Inv X b_ Z H s->t Z H Q->
  wpAny (model X.prog X.w) X.A (eval a X.env) (λv s1=>wpAny (model X.prog X.w) X.A (eval b X.env) (λu s2=>wpAny (model X.prog X.w) X.A (compareOp op v u) (EP X b_ Z Q) X.xe s2) X.xe s1) X.xe s
theorem CT(b:Expr){op:CmpOp}(h:op≠.In)(h2:op≠.NotIn):behindInMarks op b=false:=by
 have e1:(op ==CmpOp.In)=false:=by cases op<;>first|rfl|exact absurd rfl h
 have e2:(op ==CmpOp.NotIn)=false:=by cases op<;>first|rfl|exact absurd rfl h2
 cases b<;>simp[behindInMarks,e1,e2]
def Qp(ta:TE):TE:=λZ H Q=>ta Z H λx H1=>Q (.bl (!decide (x=.jb))) H1
theorem RelV.HL{x:V}{v:Value}(r:RelV x v):(v ==Value.none)=decide (x=.jb):=by
 cases x with
 | jb=>cases r;rfl
 | bl _=>cases r;rfl
 | int _=>obtain⟨t,rfl⟩:=r;rfl
 | str _=>obtain⟨t,rfl⟩:=r;rfl
 | Ep _=>obtain⟨t,rfl⟩:=r;rfl
 | Mo _=>obtain⟨t,rfl⟩:=r;rfl
 | ref _=>cases r;rfl
 | ty _=>cases r;rfl
theorem nu{j pos'}(ha:PE X a ta):PC X .IsNot a (.Constant .none j pos') (Qp ta):=by
 intro b_ s Z H Q I h
 refine iX (ha b_ s Z H _ I h) λv s1 iG=>?_
 obtain⟨x,H1,I1,r1,q1⟩:=iG
 exact Constant_none (isnot_none_gen ⟨.bl _,H1,I1,by rw[r1.HL];rfl,q1⟩)
inductive bK(x:V)(H:Hp)(Q:Bool->Hp->Prop):Prop
 | mk (k:Bool) (_:x=.bl k) (_:Q k H)
def tB(t:TE):TT:=λZ H Q=>t Z H λx H1=>bK x H1 Q
theorem Nk{op:CmpOp}{t:TE}(h:PC X op a b t)(h1:behindInMarks op b=false:=by first|exact CT _ (by decide) (by decide)|rfl):PE X (.Compare a [op] [b] pos) t:=λb_ s Z H Q I hw=>wpAny_Compare1 (h b_ s Z H Q I hw) h1
theorem jw{op:CmpOp}{t:TE}(h:PC X op a b t)(h1:behindInMarks op b=false:=by first|exact CT _ (by decide) (by decide)|rfl):PT X (.Compare a [op] [b] pos) (tB t):=by
 intro b_ s Z H Q I hw
 refine wpAny_isTrue_Compare1 (iX (h b_ s Z H _ I hw) λv s1 h1=>iX h1 λu s2 h2=>iX h2 λc s3 iG=>?_) h1
 obtain⟨x,H1,I1,r1,q1⟩:=iG
 obtain⟨d,rfl,q⟩:=q1
 cases r1
 exact abv ⟨H1,I1,q⟩
theorem nH{e:Expr}{t:TE}(h:PE X e t)(he:∀whole,isTrue e X.env whole=(do let v <-whole;standAt e.pos;holding [v] (truthy v)):=by intro _;rfl):PT X e (tB t):=by
 intro b_ s Z H Q I hw
 refine isTrue_plain (iX (h b_ s Z H _ I hw) λv s1 iG=>?_) (he _)
 obtain⟨x,H1,I1,r1,q1⟩:=iG
 obtain⟨d,rfl,q⟩:=q1
 cases r1
 exact abv ⟨H1,I1,q⟩
variable{tA TL:TT}{rest:List Expr}
def UE(t u:TT):TT:=λZ H Q=>t Z H λc H1=>if c=true then u Z H1 Q else Q false H1
def tOr(t u:TT):TT:=λZ H Q=>t Z H λc H1=>if c=true then Q true H1 else u Z H1 Q
def UG(t:TT):TT:=λZ H Q=>t Z H λc H1=>Q (!c) H1
theorem pw_and1(ha:PT X a tA):PW X (.BoolOp .And [a] pos) tA:=by
 intro wh b_ s Z H Q I h
 refine isTrue_and (iX (ha b_ s Z H Q I h) λc s1 e=>?_)
 cases c with
 | true=>exact isTrue_and_nil e
 | false=>exact e
theorem pw_or1(ha:PT X a tA):PW X (.BoolOp .Or [a] pos) tA:=by
 intro wh b_ s Z H Q I h
 refine isTrue_or (iX (ha b_ s Z H Q I h) λc s1 e=>?_)
 cases c with
 | false=>exact isTrue_or_nil e
 | true=>exact e
theorem pw_and(ha:PT X a tA)(hb:PW X (.BoolOp .And (b::rest) pos) TL):PW X (.BoolOp .And (a::b::rest) pos) (UE tA TL):=by
 intro wh b_ s Z H Q I h
 refine isTrue_and (iX (ha b_ s Z H _ I h) λc s1 iG=>?_)
 obtain⟨H1,I1,q1⟩:=iG
 cases c with
 | true=>exact hb wh b_ s1 Z H1 Q I1 q1
 | false=>exact⟨H1,I1,q1⟩
theorem pw_or(ha:PT X a tA)(hb:PW X (.BoolOp .Or (b::rest) pos) TL):PW X (.BoolOp .Or (a::b::rest) pos) (tOr tA TL):=by
 intro wh b_ s Z H Q I h
 refine isTrue_or (iX (ha b_ s Z H _ I h) λc s1 iG=>?_)
 obtain⟨H1,I1,q1⟩:=iG
 cases c with
 | true=>exact⟨H1,I1,q1⟩
 | false=>exact hb wh b_ s1 Z H1 Q I1 q1
theorem mH(ha:PT X a tA):PT X (.UnaryOp .Not a pos) (UG tA):=by
 intro b_ s Z H Q I h
 exact isTrue_not (ha b_ s Z H (λc H1=>Q (!c) H1) I h)
def Qq(ta tb:TE):TE:=λZ H Q=>ta Z H λx H1=>∃c,x=.bl c/\if c=true then tb Z H1 Q else Q (.bl false) H1
def Qr(ta:TE):TE:=λZ H Q=>ta Z H λx H1=>∃c,x=.bl c/\Q (.bl (!c)) H1
theorem Nl{op}{t:TE}(h:PE X a t):PE X (.BoolOp op [a] pos) t:=λb_ s Z H Q I hw=>BoolOp_one (h b_ s Z H Q I hw)
theorem Nn(ha:PE X a ta)(hb:PE X (.BoolOp .And (b::rest) pos) tb):PE X (.BoolOp .And (a::b::rest) pos) (Qq ta tb):=by
 intro b_ s Z H Q I h
 refine BoolOp_and (iX (ha b_ s Z H _ I h) λv s1 iG=>?_)
 obtain⟨x,H1,I1,r1,q1⟩:=iG
 obtain⟨c,rfl,q1⟩:=q1
 cases r1
 refine abv ?_
 cases c with
 | true=>exact hb b_ s1 Z H1 Q I1 q1
 | false=>exact⟨.bl false,H1,I1,rfl,q1⟩
theorem Np(ha:PE X a ta):PE X (.UnaryOp .Not a pos) (Qr ta):=by
 intro b_ s Z H Q I h
 refine UnaryOp_ (iX (ha b_ s Z H _ I h) λv s1 iG=>?_)
 obtain⟨x,H1,I1,r1,q1⟩:=iG
 obtain⟨c,rfl,q1⟩:=q1
 cases r1
 exact not_of (abv ⟨.bl (!c),H1,I1,rfl,q1⟩)
end
def h_(K:Qqy)(H:Hp)(a:Addr)(xs:List V):Prop:=
 Rd H a (.lst xs)\/
  ∃(o:Obj)(ib:Array Value)(n:Nat),K.lookup a=some o/\o.cls=.type "list"/\o.dict=none/\o.data=.seq ib n/\ib.size<=sizeLine/\Vals xs ib.toList
def qT(K:Qqy)(H:Hp)(a:Addr)(xs:List V):Prop:=
 Rd H a (.tup xs)\/
  ∃(o:Obj)(ib:Array Value)(n:Nat),K.lookup a=some o/\o.cls=.type "tuple"/\o.data=.seq ib n/\ib.size<=sizeLine/\Vals xs ib.toList
noncomputable def UH:Value->Option V
 | .none=>some .jb
 | .bool b=>some (.bl b)
 | .int i _=>some (.int i)
 | .str x _=>some (.str x)
 | .bytes b _=>some (.Ep b)
 | .float b _=>some (.Mo b)
 | .ref a=>some (.ref a)
 | .type n=>some (.ty n)
 | _=>none
theorem RelV.abs{x:V}{u:Value}(r:RelV x u):UH u=some x:=by
 cases x with
 | jb=>cases r;rfl
 | bl _=>cases r;rfl
 | int _=>obtain⟨t,rfl⟩:=r;rfl
 | str _=>obtain⟨t,rfl⟩:=r;rfl
 | Ep _=>obtain⟨t,rfl⟩:=r;rfl
 | Mo _=>obtain⟨t,rfl⟩:=r;rfl
 | ref _=>cases r;rfl
 | ty _=>cases r;rfl
theorem RelV.inj{x y:V}{u:Value}(r:RelV x u)(q:RelV y u):x=y:=aal (r.abs.symm.trans q.abs)
theorem Vals.inj:∀{xs ys:List V} {us:List Value},Vals xs us->Vals ys us->xs=ys
 | _,_,_,.nil,.nil=>rfl
 | _,_,_,.cons r t,.cons r' t'=>by rw[r.inj r',Vals.inj t t']
section
variable{X:Cx}{b_:Qqz}{Z:St}{H:Hp}{s:Shared}{a:Addr}{xs ys:List V}
theorem h_.of{K:Qqy}(h:H a=some (.lst xs)):h_ K H a xs:=.inl (.inl h)
theorem qT.of{K:Qqy}(h:H a=some (.tup xs)):qT K H a xs:=.inl (.inl h)
theorem Inv.list(I:Inv X b_ Z H s)(h:h_ X.K H a xs):∃ib:List Value,Vals xs ib/\PlainL s.heap a ib.toArray/\xs.length<=sizeLine:=by
 rcases h with h|⟨o,ib,n,hk,hc,hd,hs,hz,r⟩
 ·obtain⟨z,ib,n,r,e⟩:=h.ok I.iC
  exact⟨ib,r,⟨_,n,e,rfl,rfl,rfl⟩,z⟩
 ·refine⟨ib.toList,r,⟨o,n,I.wZ a o hk,hc,hd,by simpa using hs⟩,?_⟩
  have e:=r.length
  simp only [aaB] at e
  omega
theorem Inv.tuple(I:Inv X b_ Z H s)(h:qT X.K H a xs):∃ib:List Value,Vals xs ib/\IsTup s.heap a ib.toArray/\xs.length<=sizeLine:=by
 rcases h with h|⟨o,ib,n,hk,hc,hs,hz,r⟩
 ·obtain⟨z,ib,r,p⟩:=h.ok I.iC
  exact⟨ib,r,p,z⟩
 ·refine⟨ib.toList,r,⟨o,I.wZ a o hk,hc,n,by simpa using hs⟩,?_⟩
  have e:=r.length
  simp only [aaB] at e
  omega
theorem Inv.oZ(I:Inv X b_ Z H s)(h:h_ X.K H a xs)(h':h_ X.K H a ys):xs=ys:=by
 obtain⟨ib,r,⟨o,n,e,_,_,d⟩,_⟩:=I.list h
 obtain⟨its',r',⟨o',n',e',_,_,d'⟩,_⟩:=I.list h'
 rw[e] at e';cases e'
 rw[d] at d'
 injection d' with d1 _
 have:ib=its':=by simpa using aaQ Array.toList d1
 subst this
 exact r.inj r'
theorem Inv.Gw(I:Inv X b_ Z H s)(h:qT X.K H a xs)(h':qT X.K H a ys):xs=ys:=by
 obtain⟨ib,r,⟨o,e,_,n,d⟩,_⟩:=I.tuple h
 obtain⟨its',r',⟨o',e',_,n',d'⟩,_⟩:=I.tuple h'
 rw[e] at e';cases e'
 rw[d] at d'
 injection d' with d1 _
 have:ib=its':=by simpa using aaQ Array.toList d1
 subst this
 exact r.inj r'
end
noncomputable abbrev Cx.z9(X:Cx)(E:Qqq):Cx:={X with xe:=E}
noncomputable abbrev Cx.Mr(X:Cx):Cx:=X.z9 λ_ _=>False
theorem Cx.Ok.z9{X:Cx}(ok:X.Ok)(E:Qqq):(X.z9 E).Ok:=
 ⟨ok.mod,ok.kind,ok.glob,ok.blt,ok.above,ok.inj,ok.has,ok.Pz,ok.hd,ok.frames,ok.Ql,ok.UD,ok.bs,ok.Ko,ok.sR,ok.HK,ok.tW,ok.Kq⟩
theorem Cx.Ok.qV{X:Cx}{E:Qqq}(ok:(X.z9 E).Ok):X.Ok:=
 ⟨ok.mod,ok.kind,ok.glob,ok.blt,ok.above,ok.inj,ok.has,ok.Pz,ok.hd,ok.frames,ok.Ql,ok.UD,ok.bs,ok.Ko,ok.sR,ok.HK,ok.tW,ok.Kq⟩
section
variable{X:Cx}{b_:Qqz}{Z:St}{H:Hp}{s:Shared}{E:Qqq}
theorem Inv.z9(I:Inv X b_ Z H s)(E:Qqq):Inv (X.z9 E) b_ Z H s:=⟨I.ok.z9 E,I.os,I.bare,I.base,I.loc,I.cell,I.free,I.oj,I.pin,I.iC,I.len⟩
theorem Inv.qV(I:Inv (X.z9 E) b_ Z H s):Inv X b_ Z H s:=⟨I.ok.qV,I.os,I.bare,I.base,I.loc,I.cell,I.free,I.oj,I.pin,I.iC,I.len⟩
theorem SP.qV{D:Ends}{f:Flow}{s':Shared}(h:SP (X.z9 E) b_ D f s'):SP X b_ D f s':=by
 cases f with
 | next=>obtain⟨Z',H',I,q⟩:=h;exact⟨Z',H',I.qV,q⟩
 | brk=>obtain⟨Z',H',I,q⟩:=h;exact⟨Z',H',I.qV,q⟩
 | cont=>obtain⟨Z',H',I,q⟩:=h;exact⟨Z',H',I.qV,q⟩
 | ret u=>obtain⟨v,Z',H',I,r,q⟩:=h;exact⟨v,Z',H',I.qV,r,q⟩
theorem Ek.Mr{st:List Stmt}{t:TS}(h:Ek X.Mr st t):Ek X st t:=λb_ s Z H D I hw=>
 abu (h b_ s Z H D (I.z9 _) hw) (λ_ _ q=>q.qV) λ_ _ z=>False.elim z
end
section
variable{X:Cx}{st:Stmt}{rest:List Stmt}{t u:TS}{e:Expr}{te:TE}{pos:Pos}
def Qs:TS:=λD Z H=>D.nx Z H
def ir(t u:TS):TS:=λD Z H=>t {D with nx:=u D} Z H
theorem ie:Ek X [] Qs:=λ_ _ Z H _ I h=>wpAny_execs_nil ⟨Z,H,I,h⟩
theorem c_(h1:PS X st t)(h2:Ek X rest u):Ek X (st::rest) (ir t u):=by
 intro b_ s Z H D I h
 refine wpAny_execs_cons (iX (h1 b_ s Z H {D with nx:=u D} I h) λf s1 q=>?_)
 cases f with
 | next=>
  obtain⟨Z',H',I',q⟩:=q
  exact h2 b_ s1 Z' H' D I' q
 | ret v=>exact q
 | brk=>exact q
 | cont=>exact q
theorem eV(h1:PS X st t):Ek X [st] t:=by
 intro b_ s Z H D I h
 refine wpAny_execs_cons (iX (h1 b_ s Z H D I h) λf s1 q=>?_)
 cases f with
 | next=>exact wpAny_execs_nil q
 | ret v=>exact q
 | brk=>exact q
 | cont=>exact q
def Qt:TS:=λD Z H=>D.ct Z H
theorem CU:PS X (.Continue pos) Qt:=λ_ _ Z H _ I h=>wpAny_Continue ⟨Z,H,I,h⟩
theorem Inv.quiet{b_:Qqz}{Z:St}{H:Hp}{s:Shared}(I:Inv X b_ Z H s):interactive X.env=false:=by simp[interactive,I.ok.kind]
def Qu(te:TE):TS:=λD Z H=>te Z H λ_ H1=>D.nx Z H1
theorem iu(he:PE X e te)(hs:swapsWith e none pos.line X.env=pure false:=by rfl):PS X (.Expr e pos) (Qu te):=by
 intro b_ s Z H D I h
 exact wpAny_Expr_any (iX (he b_ s Z H _ I h) λv s1 ⟨x,H1,I1,r1,q1⟩=>⟨Z,H1,I1,q1⟩) I.quiet hs
def UI(te:TE):TS:=λD Z H=>te Z H D.rt
theorem ia(he:PE X e te):PS X (.Return (some e) pos) (UI te):=by
 intro b_ s Z H D I h
 exact wpAny_Return_some (iX (he b_ s Z H _ I h) λv s1 ⟨x,H1,I1,r1,q1⟩=>⟨x,Z,H1,I1,r1,q1⟩)
def UJ(c:TT)(t u:TS):TS:=λD Z H=>c Z H λb H1=>if b=true then t D Z H1 else u D Z H1
theorem iJ{c:Expr}{a b:List Stmt}{tc:TT}(hc:PT X c tc)(ha:Ek X a t)(hb:Ek X b u):PS X (.If c a b pos) (UJ tc t u):=by
 intro b_ s Z H D I h
 refine wpAny_If (iX (hc b_ s Z H _ I h) λd s1 iG=>?_)
 obtain⟨H1,I1,q1⟩:=iG
 cases d with
 | true=>exact ha b_ s1 Z H1 D I1 q1
 | false=>exact hb b_ s1 Z H1 D I1 q1
end
abbrev TG:=V->St->Hp->(St->Hp->Prop)->Prop
abbrev Nq:=List V->St->Hp->(St->Hp->Prop)->Prop
def PG(X:Cx)(target:Expr)(t:TG):Prop:=
 ∀(b_:Qqz)(s:Shared)(Z:St)(H:Hp)(v:V)(u:Value)(Q:St->Hp->Prop),Inv X b_ Z H s->RelV v u->t v Z H Q->
  wpAny (model X.prog X.w) X.A (assign target X.env u) (λ_ s'=>∃Z' H',Inv X b_ Z' H' s'/\Q Z' H') X.xe s
def Tu(X:Cx)(ts:List Expr)(t:Nq):Prop:=
 ∀(b_:Qqz)(s:Shared)(Z:St)(H:Hp)(vs:List V)(us:List Value)(Q:St->Hp->Prop),Inv X b_ Z H s->Vals vs us->t vs Z H Q->
  wpAny (model X.prog X.w) X.A (assignInOrder ((assignEach ts X.env).map (·.2)) us) (λ_ s'=>∃Z' H',Inv X b_ Z' H' s'/\Q Z' H') X.xe s
abbrev Nr:=V->V->V->Hp->(Hp->Prop)->Prop
def Qv(X:Cx)(t:Nr):Prop:=
 ∀(b_:Qqz)(s:Shared)(Z:St)(H:Hp)(o i v:V)(ov iv u:Value)(Q:Hp->Prop),Inv X b_ Z H s->RelV o ov->RelV i iv->RelV v u->t o i v H Q->
  wpAny (model X.prog X.w) X.A (setItem ov iv u) (λ_ s'=>∃H',Inv X b_ Z H' s'/\Q H') X.xe s
section
variable{X:Cx}{pos:Pos}
def o3(i:Nat):TG:=λv Z H Q=>Q (Z.set i (some v)) H
theorem iK{i:Nat}{x:Str}(hN:X.N.Nodup)(hi:X.N[i]?=some x)(hx:Loc X.env.scope x)(hf:X.fn x=true\/X.env.scope.names.lookup x=some .local:=by first|exact .inl rfl|exact .inr rfl|assumption):PG X (.Name x pos) (o3 i):=by
 intro b_ s Z H v u Q I r h
 exact wpAny_assign_Name (CS I hN hi hx r (λs' I'=>⟨_,H,I',h⟩) hf)
def UK:Nq:=λvs Z H Q=>vs=[]/\Q Z H
def Qw(t:TG)(u:Nq):Nq:=λvs Z H Q=>∃v r,vs=v::r/\t v Z H λZ' H'=>u r Z' H' Q
theorem Fz:Tu X [] UK:=by
 intro b_ s Z H vs us Q I r h
 obtain⟨e,h⟩:=h
 subst e
 cases r
 exact assignInOrder_nil ⟨Z,H,I,h⟩
theorem uB{e:Expr}{es:List Expr}{t:TG}{u:Nq}(h1:PG X e t)(h2:Tu X es u)
  (hs:(assignEach (e::es) X.env).map (·.2)=assign e X.env::(assignEach es X.env).map (·.2):=by rfl):Tu X (e::es) (Qw t u):=by
 intro b_ s Z H vs us Q I r h
 obtain⟨v,vr,e1,h⟩:=h
 subst e1
 cases r with
 | cons r rr=>
  rw[hs]
  refine assignInOrder_cons (iX (h1 b_ s Z H _ _ _ I r h) λ_ s1 iG=>?_)
  obtain⟨Z1,H1,I1,q1⟩:=iG
  exact h2 b_ s1 Z1 H1 _ _ Q I1 rr q1
def UL(K:Qqy)(n:Nat)(t:Nq):TG:=λv Z H Q=>∃a xs,v=.ref a/\qT K H a xs/\xs.length=n/\t xs Z H Q
theorem HM{es:List Expr}{k:Nat}{t:Nq}{n:Nat}(hc:X.calm=true)(h:Tu X es t)
  (hn:(assignEach es X.env).length=n:=by rfl) (Fn:(assignEach es X.env).findIdx? (·.1)=none:=by rfl):PG X (.Tuple es k pos) (UL X.K n t):=by
 intro b_ s Z H v u Q I r hw
 obtain⟨a,xs,e1,hq,hl,hw⟩:=hw
 subst e1
 cases r
 obtain⟨ib,rv,ht,hz⟩:=I.tuple hq
 refine assign_Tuple_tuple (I.ok.hd hc) ht (by simp[hn,<-hl,rv.length]) Fn λh' hx=>?_
 have I1:Inv X b_ Z H {s with heap:=h'}:=I.kept (t':=s.toks) λb o e=>hx b o (aaD (aak e)) e
 exact h b_ _ Z H xs _ Q I1 (by simpa using rv) hw
def UM(to ti:TE)(t:Nr):TG:=λv Z H Q=>to Z H λo H1=>ti Z H1 λi H2=>t o i v H2 λH3=>Q Z H3
theorem yt{o i:Expr}{to ti:TE}{t:Nr}(ho:PE X o to)(hi:PE X i ti)(hs:Qv X t)
  (ha:∀v,assign (.Subscript o i pos) X.env v=(do
   let ov <-holding [v] (eval o X.env)
   let iv <-holding [v,ov] (eval i X.env)
   standAt pos
   holding [v,ov,iv] (setItem ov iv v)
   release [v,ov,iv] []):=by intro _;rfl):PG X (.Subscript o i pos) (UM to ti t):=by
 intro b_ s Z H v u Q I r h
 rw[ha]
 refine Ph (aa9 (iX (ho b_ s Z H _ I h) λov s1 iG=>?_))
 obtain⟨x,H1,I1,r1,q1⟩:=iG
 refine Ph (aa9 (iX (hi b_ s1 Z H1 _ I1 q1) λiv s2 iG=>?_))
 obtain⟨y,H2,I2,r2,q2⟩:=iG
 refine Ph (wpAny_standAt (Ph (aa9 (iX (hs b_ s2 Z H2 x y v ov iv u _ I2 r1 r2 r q2) λ_ s3 iG=>?_))))
 obtain⟨H3,I3,q3⟩:=iG
 exact wpAny_release ⟨Z,H3,I3,q3⟩
def HN(te:TE)(g:TG):TS:=λD Z H=>te Z H λx H1=>g x Z H1 D.nx
theorem yu{tg e:Expr}{te:TE}{g:TG}(he:PE X e te)(hg:PG X tg g)(hs:swapsWithSole [tg] e pos.line X.env=pure false:=by rfl)(hw:swappedStores [tg] e X.env=pure none:=by rfl)
  (h1:(assignEach [tg] X.env).map (·.2)=[assign tg X.env]:=by rfl):PS X (.Assign [tg] e pos) (HN te g):=by
 intro b_ s Z H D I h
 refine wpAny_Assign_stores (iX (he b_ s Z H _ I h) λv s1 iG=>?_) hs hw
 obtain⟨x,H1,I1,r1,q1⟩:=iG
 rw[h1]
 exact iX (hg b_ s1 Z H1 x v _ I1 r1 q1) λ_ s2 q=>q
theorem lU{i:Nat}{x:Str}{e:Expr}{te:TE}{pos':Pos}(hN:X.N.Nodup)(hi:X.N[i]?=some x)(hx:Loc X.env.scope x)(he:PE X e te)(hs:swapsWith e (some (.Name x pos')) pos.line X.env=pure false:=by rfl)(hf:X.fn x=true\/X.env.scope.names.lookup x=some .local:=by first|exact .inl rfl|exact .inr rfl|assumption) :
  PS X (.Assign [.Name x pos'] e pos) (HN te (o3 i)):=by
 intro b_ s Z H D I h
 refine wpAny_Assign_Name (iX (he b_ s Z H _ I h) λv s1 iG=>?_) hs
 obtain⟨y,H1,I1,r1,q1⟩:=iG
 exact CS I1 hN hi hx r1 (λs2 I2=>⟨_,H1,I2,q1⟩) hf
def Nt(c:TT)(tb:TS):TS:=λD Z H=>∃W:Nat->St->Hp->Prop,(∃m,W m Z H)/\∀m Z H,W m Z H->
 c Z H λb H1=>if b=true then ∃N:St->Hp->Prop,(∀Z' H',N Z' H'->∃m',m'<m/\W m' Z' H')/\tb {D with nx:=N,ct:=N,bk:=D.nx} Z H1 else D.nx Z H1
theorem yv{c:Expr}{body:List Stmt}{tc:TT}{tb:TS}(hp:PassesOwn (model X.prog X.w) X.A X.env X.xe)(hc:PT X c tc)(hb:Ek X body tb):PS X (.While c body [] pos) (Nt tc tb):=by
 intro b_ s Z H D I h
 obtain⟨W,⟨m0,w0⟩,turn⟩:=h
 refine wpAny_While (codeAny_whileLoop (λn s'=>∃Z' H',Inv X b_ Z' H' s'/\W n Z' H') ?_ m0 ⟨Z,H,I,w0⟩)
 rintro n s1 ⟨Z1,H1,I1,w1⟩
 refine abW hp (iX (hc b_ s1 Z1 H1 _ I1 (turn n Z1 H1 w1)) λb s2 iG=>?_)
 obtain⟨H2,I2,q2⟩:=iG
 cases b with
 | true=>
  obtain⟨N,hN,q2⟩:=q2
  rw[aag rfl]
  refine abW hp (iX (hb b_ s2 Z1 H2 _ I2 q2) λf s3 q3=>?_)
  cases f with
  | next=>
   obtain⟨Z3,H3,I3,n3⟩:=q3
   obtain⟨m',hm,w3⟩:=hN Z3 H3 n3
   exact⟨m',hm,Z3,H3,I3,w3⟩
  | cont=>
   obtain⟨Z3,H3,I3,n3⟩:=q3
   obtain⟨m',hm,w3⟩:=hN Z3 H3 n3
   exact⟨m',hm,Z3,H3,I3,w3⟩
  | brk=>exact q3
  | ret v=>exact q3
 | false=>
  rw[aac aab]
  exact wpAny_execs_nil ⟨Z1,H2,I2,q2⟩
end
structure It where
 go:Nat->Hp->Prop
 Kr:Nat->Hp->V->Hp->Prop
 stop:Nat->Hp->Prop
def tX(X:Cx)(b_:Qqz)(H:Hp)(b:Addr):Prop:=
 H b=none/\b≠X.env.locals/\b∉X.fs/\(b∈X.ex\/X.s₀.heap.objs.size<=b)/\(∀x c,X.env.cells.lookup x=some c->c≠b)/\∀p∈X.pn++b_,p.1≠b
theorem Inv.xS{X:Cx}{b_:Qqz}{Z:St}{H H':Hp}{s:Shared}{b:Addr}(I:Inv X b_ Z H s)(hb:s.heap.objs.size<=b)(hn:H' b=none):tX X b_ H' b:=by
 refine⟨hn,ab1 (aaw I.lt hb),I.Qm hb,.inr (aao I.sz hb),λx c e z=>?_,λp hp z=>?_⟩
 ·obtain⟨v,q⟩:=I.cell x c e
  exact absurd (aaw q.lt (by rw[z];exact hb)) (abj _)
 ·exact absurd (aaw (aak (I.pin p hp).1) (by rw[z];exact hb)) (abj _)
structure Turn(P:Program)(w:World)(K:Qqy)(tg:Expr)(J:It)(fp:List Addr)(it:Addr)(tn:Nat->Heap->Prop):Prop where
 mem:it∈fp
 obj:∀i h,tn i h->∀b∈fp,∃o,h.get? b=some o/\∀v,o.data≠.cell v
 keep:∀i h h',tn i h->(∀b∈fp,∀o,h.get? b=some o->h'.get? b=some o)->tn i h'
 item:∀(X:Cx),X.prog=P->X.w=w->X.K=K->X.calm=true->∀(i:Nat)(b_:Qqz)(s:Shared)(Z:St)(H:Hp)(E:Qqq),Inv X b_ Z H s->(∀b∈fp,tX X b_ H b)->tn i s.heap->J.go i H->
  wpAny (model P w) X.A (pyNext (.ref it)) (λr s1=>∃u,r=some u/\
   wpAny (model P w) X.A (letOwnedTupleGo tg (.ref it) u) (λ_ s2=>∃x H',Inv X b_ Z H' s2/\RelV x u/\J.Kr i H x H'/\tn (i+1) s2.heap/\∀b∈fp,H' b=none) E s1) E s
 done:∀(X:Cx),X.prog=P->X.w=w->X.K=K->X.calm=true->∀(i:Nat)(b_:Qqz)(s:Shared)(Z:St)(H:Hp)(E:Qqq),Inv X b_ Z H s->(∀b∈fp,tX X b_ H b)->tn i s.heap->J.stop i H->
  wpAny (model P w) X.A (pyNext (.ref it)) (λr s1=>r=none/\Inv X b_ Z H s1) E s
 self:∀(A:Around)(i:Nat)(s:Shared)(Q:Qqq)(E:Qqq),tn i s.heap->Q (.ref it) s->wpAny (model P w) A (pyIter (.ref it)) Q E s
abbrev TI:=St->Hp->(It->Hp->Prop)->Prop
def UN(X:Cx)(b_:Qqz)(Z:St)(tg:Expr)(R:It->Hp->Prop)(TM:Value)(s2:Shared):Prop:=
 ∃(it:Addr)(fp:List Addr)(tn:Nat->Heap->Prop)(J:It)(H':Hp),TM=.ref it/\Inv X b_ Z H' s2/\Turn X.prog X.w X.K tg J fp it tn/\tn 0 s2.heap/\(∀b∈fp,tX X b_ H' b)/\R J H'
def PI(X:Cx)(tg iter:Expr)(wi:TI):Prop:=
 ∀(b_:Qqz)(s:Shared)(Z:St)(H:Hp)(R:It->Hp->Prop),Inv X b_ Z H s->wi Z H R->
  wpAny (model X.prog X.w) X.A (eval iter X.env) (λv s1=>wpAny (model X.prog X.w) X.A (pyIter v) (UN X b_ Z tg R) X.xe s1) X.xe s
theorem yw{M:Model}{A:Around}{E:Qqq}{s:Shared}{tg:Expr}{it:Addr}{u:Value}{o:Obj}{n:String}{vs:Array Value}{Q:Unit->Shared->Prop}(ho:s.heap.get? it=some o)(hc:o.cls=.type n)(hd:o.data=.fields vs)
  (hn:["enumerate","zip","dict_itemiterator","dict_reverseitemiterator","odict_iterator","itertools.zip_longest","itertools.pairwise"].contains n=false) (hQ:Q () s):wpAny M A (letOwnedTupleGo tg (.ref it) u) Q E s:=by
 unfold letOwnedTupleGo
 cases tg<;>first
  | exact R8 hQ
  | (cases u<;>first
   | exact R8 hQ
   | (
    refine Ph (wpAny_load ho ?_)
    rw[hc,hd]
    show wpAny M A (if(["enumerate","zip","dict_itemiterator","dict_reverseitemiterator","odict_iterator","itertools.zip_longest","itertools.pairwise"].contains n&&vs[0]? ==some (rawInt _))=true then _ else _) Q E s
    rw[aac (by intro h;rw[hn,Bool.false_and] at h;cases h)]
    exact R8 hQ))
def PB(K:Qqy)(a:Addr):It:=
 ⟨λi H=>∃xs x,h_ K H a xs/\xs[i]?=some x,λi H x H'=>H'=H/\∀xs,h_ K H a xs->xs[i]?=some x,λi H=>∃xs,h_ K H a xs/\xs.length<=i⟩
def Ms(lo:Int)(n:Nat):It:=⟨λi _=>i<n,λi H x H'=>H'=H/\x=.int (lo+i),λi _=>n<=i⟩
theorem Gx{P:Program}{w:World}{K:Qqy}{tg:Expr}(a it:Addr):Turn P w K tg (PB K a) [it] it (λi h=>h.IsListIter it a i) where
 mem:=by simp
 obj:=λi h st b hb=>by
  have e:b=it:=by simpa using hb
  subst e
  obtain⟨o,e,c,d⟩:=st
  exact⟨o,e,λv z=>by rw[d] at z;cases z⟩
 keep:=λi h h' st k=>st.at λo e=>k it (by simp) o e
 item:=by
  intro X hP hw hK hc i b_ s Z H E I hf st hg
  subst hP hw hK
  obtain⟨xs,x,hq,hx⟩:=hg
  obtain⟨ib,rv,p,hz⟩:=I.list hq
  obtain⟨u,hu,ru⟩:=rv.get hx
  obtain⟨f0,f1,f2,f3,f4,f5⟩:=hf it (by simp)
  refine wpAny_pyNext_list_item st p.isList (x:=u) (by simpa using hu) λh' wO sb=>?_
  have I1:Inv X b_ Z H {s with heap:=h'}:=I.turned (t':=s.toks) (λb o hb e=>(sb.2 b hb).trans e) f0 f1 f3 f4 f5
  obtain⟨o,e,c,d⟩:=id wO
  exact⟨u,rfl,yw (s:={s with heap:=h'}) e c d (by decide) ⟨x,H,I1,ru,⟨rfl,λys hy=>by rw[I.oZ hy hq];exact hx⟩,wO,λb hb=>(hf b hb).1⟩⟩
 done:=by
  intro X hP hw hK hc i b_ s Z H E I hf st hg
  subst hP hw hK
  obtain⟨xs,hq,hx⟩:=hg
  obtain⟨ib,rv,p,hz⟩:=I.list hq
  obtain⟨f0,f1,f2,f3,f4,f5⟩:=hf it (by simp)
  have hl:=rv.length
  exact wpAny_pyNext_list_end (I.ok.hd hc) st p.isList (by simp;omega) λh' eb=>⟨rfl,I.turned (t':=s.toks) (λb o hb e=>eb b o hb e) f0 f1 f3 f4 f5⟩
 self:=λ_ _ _ _ _ st h=>wpAny_pyIter_listiter st h
theorem Er{P:Program}{w:World}{K:PySem.W.Frag}{tg:Expr}(it:Addr)(lo:Int)(n:Nat):Turn P w K tg (Ms lo n) [it] it (λi h=>IsRangeIter h it (lo+(i:Nat)*1) ((n:Int)-(i:Nat)) 1) where
 mem:=by simp
 obj:=λi h st b hb=>by
  have e:b=it:=by simpa using hb
  subst e
  exact⟨_,st,λv z=>by
   have z':Data.fields _=Data.cell v:=z
   cases z'⟩
 keep:=λi h h' st k=>k it (by simp) _ st
 item:=by
  intro X hP hw hK hc i b_ s Z H E I hf st hg
  subst hP hw hK
  obtain⟨f0,f1,f2,f3,f4,f5⟩:=hf it (by simp)
  have W:=Walks.range (prog:=X.prog) (w:=X.w) (I.ok.hd hc) it lo 1 n
  refine W.item i s _ _ hg st λv h' tk hv wO kk=>?_
  obtain⟨t,rfl⟩:=hv
  have I1:Inv X b_ Z H {s with heap:=h',toks:=tk}:=I.turned (λb o hb e=>kk b o (by simpa using hb) e) f0 f1 f3 f4 f5
  refine⟨_,rfl,yw (s:={s with heap:=h',toks:=tk}) (n:="range_iterator") wO rfl rfl (by decide) ⟨.int (lo+i),H,I1,⟨t,?_⟩,⟨rfl,rfl⟩,wO,λb hb=>(hf b hb).1⟩⟩
  rw[Int.mul_one]
 done:=by
  intro X hP hw hK hc i b_ s Z H E I hf st hg
  subst hP hw hK
  obtain⟨f0,f1,f2,f3,f4,f5⟩:=hf it (by simp)
  exact wpAny_pyNext_range_end (I.ok.hd hc) st (by have:n<=i:=hg;omega) λh' eb=>⟨rfl,I.turned (t':=s.toks) (λb o hb e=>eb b o hb e) f0 f1 f3 f4 f5⟩
 self:=λ_ _ _ _ _ st h=>wpAny_pyIter_rangeiter st h
section
variable{X:Cx}{tg:Expr}
inductive lK(K:Qqy)(x:V)(H:Hp)(R:It->Hp->Prop):Prop
 | mk (a:Addr) (_:x=.ref a) (_:∃xs,h_ K H a xs) (_:R (PB K a) H)
def Qx(K:Qqy)(tl:TE):TI:=λZ H R=>tl Z H λx H1=>lK K x H1 R
theorem iH{l:Expr}{tl:TE}(hl:PE X l tl):PI X tg l (Qx X.K tl):=by
 intro b_ s Z H R I h
 refine iX (hl b_ s Z H _ I h) λv s1 iG=>?_
 obtain⟨x,H1,I1,r1,q1⟩:=iG
 obtain⟨a,e,⟨xs,hq⟩,q⟩:=q1
 subst e
 cases r1
 obtain⟨ib,rv,p,hz⟩:=I1.list hq
 refine wpAny_pyIter_list p.isList ?_
 refine⟨s1.heap.objs.size,[s1.heap.objs.size],_,_,H1,rfl,I1.kept (t':=s1.toks) λb o e=>Ve _ e,Gx a _,⟨_,YK _ rfl,rfl,rfl⟩,λb hb=>?_,q⟩
 have e:b=s1.heap.objs.size:=by simpa using hb
 subst e
 exact I1.xS (Vb _) (I1.iC.fresh (Vb _))
theorem CV{b_:Qqz}{Z:St}{H:Hp}{s:Shared}{R:It->Hp->Prop}{E:Qqq}{lo hi:Int}{t u v:Tok}{tk:Nat}(I:Inv X b_ Z H s)(h1:-(2 ^ 62)<=lo)(h2:lo<2 ^ 62)(h3:-(2 ^ 62)<=hi)(h4:hi<2 ^ 62)
  (q:R (Ms lo (hi-lo).toNat) H):wpAny (model X.prog X.w) X.A (pyIter (.ref s.heap.objs.size)) (UN X b_ Z tg R) E {s with heap:=s.heap.push {cls:=.type "range",data:=.fields #[.int lo t,.int hi u,.int 1 v]},toks:=tk}:=by
 refine wpAny_pyIter_range (IsRange.new ..) (small_one h1 h2 h3 h4) ?_
 have I1:Inv X b_ Z H {s with heap:=s.heap.push {cls:=.type "range",data:=.fields #[.int lo t,.int hi u,.int 1 v]},toks:=tk}:=I.kept λb o e=>Ve _ e
 refine⟨(s.heap.push {cls:=.type "range",data:=.fields #[.int lo t,.int hi u,.int 1 v]}).objs.size,[(s.heap.push {cls:=.type "range",data:=.fields #[.int lo t,.int hi u,.int 1 v]}).objs.size],_,_,H,rfl,
  I1.kept (t':=tk) λb o e=>Ve _ e,Er _ lo (hi-lo).toNat,?_,λb hb=>?_,q⟩
 ·have e1:lo+((0:Nat):Int)*1=lo:=by simp
  have e2:(((hi-lo).toNat:Nat):Int)-((0:Nat):Int)=Builtin.Range.rangeSize lo hi 1:=by rw[rangeSize_one];split<;>omega
  show IsRangeIter _ _ (lo+((0:Nat):Int)*1) ((((hi-lo).toNat:Nat):Int)-((0:Nat):Int)) 1
  rw[e1,e2]
  exact YK _ rfl
 ·have e:b=(s.heap.push {cls:=.type "range",data:=.fields #[.int lo t,.int hi u,.int 1 v]}).objs.size:=by simpa using hb
  subst e
  exact I1.xS (Vb _) (I1.iC.fresh (Vb _))
def Qy(ta:TA):TI:=λZ H R=>ta Z H λvs H1=>∃j:Int,vs=[.int j]/\-(2 ^ 62)<=j/\j<2 ^ 62/\R (Ms 0 j.toNat) H1
def Qz(ta:TA):TI:=λZ H R=>ta Z H λvs H1=>∃i j:Int,vs=[.int i,.int j]/\(-(2 ^ 62)<=i/\i<2 ^ 62/\-(2 ^ 62)<=j/\j<2 ^ 62)/\R (Ms i (j-i).toNat) H1
theorem jS{a:Expr}{ta:TA}{p pos:Pos}(hg:Gl X "range")(hm:X.mg "range"=none)(ha:PA X [a] ta)(hs:starEach [a] X.env=[(false,eval a X.env)]:=by rfl):PI X tg (.Call (.Name "range" p) [a] [] pos) (Qy ta):=by
 intro b_ s Z H R I h
 refine Call_ (lT I hg hm boot_range (aaN (iX (ha pos b_ s Z H _ I h) λus s1 iG=>?_) hs rfl))
 obtain⟨vs,H1,I1,r1,q1⟩:=iG
 obtain⟨j,e,q1,q2,q⟩:=q1
 subst e
 cases r1 with
 | cons r rr=>
  cases rr
  obtain⟨t,rfl⟩:=r
  exact call_range_1 (CV I1 (by omega) (by omega) q1 q2 (by simpa using q))
theorem sv{a b:Expr}{ta:TA}{p pos:Pos}(hg:Gl X "range")(hm:X.mg "range"=none)(ha:PA X [a,b] ta)(hs:starEach [a,b] X.env=[(false,eval a X.env),(false,eval b X.env)]:=by rfl)(HE:starEach [b] X.env=[(false,eval b X.env)]:=by rfl) :
  PI X tg (.Call (.Name "range" p) [a,b] [] pos) (Qz ta):=by
 intro b_ s Z H R I h
 refine Call_ (lT I hg hm boot_range (aaN (iX (ha pos b_ s Z H _ I h) λus s1 iG=>?_) (by rw[hs,HE]) (by rw[HE];rfl)))
 obtain⟨vs,H1,I1,r1,q1⟩:=iG
 obtain⟨i,j,e,⟨q1,q2,q3,q4⟩,q⟩:=q1
 subst e
 cases r1 with
 | cons r rr=>
  cases rr with
  | cons r' rr=>
   cases rr
   obtain⟨t,rfl⟩:=r
   obtain⟨t',rfl⟩:=r'
   exact call_range_2 (CV I1 q1 q2 q3 q4 q)
def Nu(wi:TI)(g:TG)(tb:TS):TS:=λD Z H=>wi Z H λJ H1=>∃W:Nat->Nat->St->Hp->Prop,(∃m,W 0 m Z H1)/\∀i m Z H,W i m Z H->
 (J.stop i H/\D.nx Z H)\/(J.go i H/\∃N:St->Hp->Prop,(∀Z' H',N Z' H'->∃m',m'<m/\W (i+1) m' Z' H')/\∀x H',J.Kr i H x H'->g x Z H' λZ2 H2=>tb {D with nx:=N,ct:=N,bk:=D.nx} Z2 H2)
def yx(fp:List Addr)(h:Heap):Qqz:=fp.filterMap λb=>(h.get? b).map λo=>(b,o)
theorem pU{fp:List Addr}{h:Heap}{b:Addr}{o:Obj}(hb:b∈fp)(e:h.get? b=some o):(b,o)∈yx fp h:=abP.mpr ⟨b,hb,by rw[e];rfl⟩
theorem Gy{fp:List Addr}{h:Heap}{p:Addr×Obj}(hp:p∈yx fp h):p.1∈fp/\h.get? p.1=some p.2:=by
 obtain⟨b,hb,e⟩:=abP.mp hp
 cases q:h.get? b with
 | none=>rw[q] at e;cases e
 | some o=>
  rw[q] at e
  have e':(b,o)=p:=aal e
  subst e'
  exact⟨hb,q⟩
theorem Inv.pinned{b_:Qqz}{Z:St}{H:Hp}{s:Shared}{fp:List Addr}(I:Inv X b_ Z H s)(hf:∀b∈fp,tX X b_ H b)(ho:∀b∈fp,∃o,s.heap.get? b=some o/\∀v,o.data≠.cell v):Inv X (b_++yx fp s.heap) Z H s:=
 I.yd λp hp=>(YD.mp hp).elim (λz=>I.pin p (aaG _ z)) λz=>by
  obtain⟨hb,e⟩:=Gy z
  obtain⟨f0,f1,f2,_⟩:=hf p.1 hb
  obtain⟨o,e',d⟩:=ho p.1 hb
  rw[e] at e';cases e'
  exact⟨e,f0,f1,f2,d⟩
theorem Inv.uC{b_ pl:Qqz}{Z:St}{H:Hp}{s:Shared}(I:Inv X (b_++pl) Z H s):Inv X b_ Z H s:=I.yd λp hp=>I.pin p (aaG _ (aan _ hp))
theorem iI{iter:Expr}{body:List Stmt}{wi:TI}{g:TG}{tb:TS}{pos:Pos}(hp:PassesOwn (model X.prog X.w) X.A X.env X.xe)(hc:X.calm=true)(hi:PI X tg iter wi)(hg:PG X tg g)(hb:Ek X body tb)
  (hs:∀x,foldedSetIterable iter X.env x=pure x:=by intro _;rfl):PS X (.For tg iter body [] pos) (Nu wi g tb):=by
 intro b_ s Z H D I h
 refine wpAny_For (iX (hi b_ s Z H _ I h) λv s1 h1=>iX h1 λTM s2 h2=>?_) hs
 obtain⟨it,fp,tn,J,H2,e,I2,T,zI,f2,W,⟨m0,w0⟩,turn⟩:=h2
 subst e
 have OP:∀{H':Hp},(∀b∈fp,H' b=none)->∀b∈fp,tX X b_ H' b:=λhn b hb=>⟨hn b hb,(f2 b hb).2⟩
 refine codeAny_forLoop_any (λn s'=>∃i Z' H',Inv X b_ Z' H' s'/\tn i s'.heap/\(∀b∈fp,H' b=none)/\W i n Z' H') ?_ m0 ⟨0,Z,H2,I2,zI,λb hb=>(f2 b hb).1,w0⟩
 rintro n s3 ⟨i,Z3,H3,I3,Mt,RC,w3⟩
 rcases turn i n Z3 H3 w3 with⟨stop,qn⟩|⟨go,N,hN,step⟩
 ·refine abW hp (iX (T.done X rfl rfl rfl hc i b_ s3 Z3 H3 X.xe I3 (OP RC) Mt stop) λr s4 iG=>?_)
  obtain⟨hr,I4⟩:=iG
  subst hr
  exact wpAny_execs_nil ⟨Z3,H3,I4,qn⟩
 ·refine abW hp (iX (T.item X rfl rfl rfl hc i b_ s3 Z3 H3 X.xe I3 (OP RC) Mt go) λr s4 iG=>?_)
  obtain⟨u,hr,h4⟩:=iG
  subst hr
  refine abW hp (iX h4 λ_ s5 iG=>?_)
  obtain⟨x,H5,I5,r5,y5,OQ,VC⟩:=iG
  have VD:=I5.pinned (OP VC) (T.obj _ _ OQ)
  refine abW hp (iX (hg _ s5 Z3 H5 x u _ VD r5 (step x H5 y5)) λ_ s6 iG=>?_)
  obtain⟨Z6,H6,I6,q6⟩:=iG
  refine abW hp (iX (hb _ s6 Z6 H6 _ I6 q6) λf s7 q7=>?_)
  have again:∀{Z7:St} {H7:Hp},Inv X (b_++yx fp s5.heap) Z7 H7 s7->N Z7 H7->∃m,m<n/\∃i Z' H',Inv X b_ Z' H' s7/\tn i s7.heap/\(∀b∈fp,H' b=none)/\W i m Z' H':=λ{Z7 H7} I7 n7=>by
   obtain⟨m',hm,w7⟩:=hN Z7 H7 n7
   refine⟨m',hm,i+1,Z7,H7,I7.uC,T.keep _ _ _ OQ λb hb o e=>(I7.pin (b,o) (aaG _ (aaG _ (pU hb e)))).1,λb hb=>?_,w7⟩
   obtain⟨o,e,d⟩:=T.obj _ _ OQ b hb
   exact(I7.pin (b,o) (aaG _ (aaG _ (pU hb e)))).2.1
  cases f with
  | next=>obtain⟨Z7,H7,I7,n7⟩:=q7;exact again I7 n7
  | cont=>obtain⟨Z7,H7,I7,n7⟩:=q7;exact again I7 n7
  | brk=>obtain⟨Z7,H7,I7,q7⟩:=q7;exact⟨Z7,H7,I7.uC,q7⟩
  | ret v=>obtain⟨x7,Z7,H7,I7,r7,q7⟩:=q7;exact⟨x7,Z7,H7,I7.uC,r7,q7⟩
end
theorem jy{K:PySem.W.Frag}{a:Addr}{xs:List V}{g:TG}{tb:TS}{D:Ends}{Z:St}{H:Hp}(Pv:Nat->St->Hp->Prop)(h0:Pv 0 Z H)(hl:∀i Z H,i<=xs.length->Pv i Z H->h_ K H a xs)
  (hs:∀i x Z H,xs[i]?=some x->Pv i Z H->g x Z H λZ2 H2=>tb {D with nx:=Pv (i+1),ct:=Pv (i+1),bk:=D.nx} Z2 H2) (hd:∀Z H,Pv xs.length Z H->D.nx Z H) :
  ∃W:Nat->Nat->St->Hp->Prop,(∃m,W 0 m Z H)/\∀i m Z H,W i m Z H->
   ((PB K a).stop i H/\D.nx Z H)\/((PB K a).go i H/\∃N:St->Hp->Prop,(∀Z' H',N Z' H'->∃m',m'<m/\W (i+1) m' Z' H')/\∀x H',(PB K a).Kr i H x H'->g x Z H' λZ2 H2=>tb {D with nx:=N,ct:=N,bk:=D.nx} Z2 H2):=by
 refine⟨λi m Z H=>m=xs.length-i/\i<=xs.length/\Pv i Z H,⟨xs.length,by simp,aaI _,h0⟩,?_⟩
 rintro i m Z H ⟨rfl,hi,p⟩
 have q:=hl i Z H hi p
 by_cases j9:i<xs.length
 ·refine .inr ⟨⟨xs,xs[i],q,by simp[j9]⟩,Pv (i+1),λZ' H' p'=>⟨xs.length-(i+1),by omega,rfl,j9,p'⟩,λx H' y=>?_⟩
  obtain⟨e,y⟩:=y
  subst e
  exact hs i x Z _ (y xs q) p
 ·have e:i=xs.length:=by omega
  subst e
  exact .inl ⟨⟨xs,q,Vb _⟩,hd Z H p⟩
theorem j2{lo:Int}{n:Nat}{g:TG}{tb:TS}{D:Ends}{Z:St}{H:Hp}(Pv:Nat->St->Hp->Prop)(h0:Pv 0 Z H)
  (hs:∀i Z H,i<n->Pv i Z H->g (.int (lo+i)) Z H λZ2 H2=>tb {D with nx:=Pv (i+1),ct:=Pv (i+1),bk:=D.nx} Z2 H2) (hd:∀Z H,Pv n Z H->D.nx Z H) :
  ∃W:Nat->Nat->St->Hp->Prop,(∃m,W 0 m Z H)/\∀i m Z H,W i m Z H->
   ((Ms lo n).stop i H/\D.nx Z H)\/((Ms lo n).go i H/\∃N:St->Hp->Prop,(∀Z' H',N Z' H'->∃m',m'<m/\W (i+1) m' Z' H')/\∀x H',(Ms lo n).Kr i H x H'->g x Z H' λZ2 H2=>tb {D with nx:=N,ct:=N,bk:=D.nx} Z2 H2):=by
 refine⟨λi m Z H=>m=n-i/\i<=n/\Pv i Z H,⟨n,by simp,aaI _,h0⟩,?_⟩
 rintro i m Z H ⟨rfl,hi,p⟩
 by_cases j9:i<n
 ·refine .inr ⟨j9,Pv (i+1),λZ' H' p'=>⟨n-(i+1),by omega,rfl,j9,p'⟩,λx H' y=>?_⟩
  obtain⟨e,y⟩:=y
  subst e y
  exact hs i Z _ j9 p
 ·have e:i=n:=by omega
  subst e
  exact .inl ⟨Vb _,hd Z H p⟩
abbrev R2:=V->V->Hp->VK->Prop
def ye(X:Cx)(f:Value->Value->Sem Value)(r:R2):Prop:=
 ∀(b_:Qqz)(s:Shared)(Z:St)(H:Hp)(x y:V)(v u:Value)(Q:VK),Inv X b_ Z H s->RelV x v->RelV y u->r x y H Q->
  wpAny (model X.prog X.w) X.A (f v u) (EP X b_ Z Q) X.xe s
def UO(X:Cx)(f:Value->Sem Value)(r:V->Hp->VK->Prop):Prop:=
 ∀(b_:Qqz)(s:Shared)(Z:St)(H:Hp)(x:V)(v:Value)(Q:VK),Inv X b_ Z H s->RelV x v->r x H Q->
  wpAny (model X.prog X.w) X.A (f v) (EP X b_ Z Q) X.xe s
def qE(X:Cx)(f:Value)(r:List V->Hp->VK->Prop):Prop:=
 ∀(b_:Qqz)(s:Shared)(Z:St)(H:Hp)(xs:List V)(us:List Value)(Q:VK),Inv X b_ Z H s->Vals xs us->r xs H Q->
  wpAny (model X.prog X.w) X.A (call f us) (EP X b_ Z Q) X.xe s
def UP(X:Cx)(r:V->Hp->(Bool->Hp->Prop)->Prop):Prop:=
 ∀(b_:Qqz)(s:Shared)(Z:St)(H:Hp)(x:V)(v:Value)(Q:Bool->Hp->Prop),Inv X b_ Z H s->RelV x v->r x H Q->
  wpAny (model X.prog X.w) X.A (truthy v) (TP X b_ Z Q) X.xe s
def QA(r:R2)(ta tb:TE):TE:=λZ H Q=>ta Z H λx H1=>tb Z H1 λy H2=>r x y H2 Q
def tUn(r:V->Hp->VK->Prop)(ta:TE):TE:=λZ H Q=>ta Z H λx H1=>r x H1 Q
inductive rI(C:Int->Int->Prop)(g:Int->Int->V)(x:V)(y:V)(H:Hp)(Q:VK):Prop
 | mk (i j) (_:x=.int i) (_:y=.int j) (_:C i j) (_:Q (g i j) H)
inductive Nv(g:Int->Int->V)(x:V)(y:V)(H:Hp)(Q:VK):Prop
 | mk (i j) (_:x=.int i) (_:y=.int j) (_:Q (g i j) H)
def rU(g:Int->V):V->Hp->VK->Prop:=λx H Q=>∃i,x=.int i/\Q (g i) H
section
variable{X:Cx}{a b c:Expr}{ta tb tc:TE}{pos:Pos}
theorem Nw(ha:PE X a ta)(hb:PE X b tb){b_:Qqz}{s:Shared}{Z:St}{H:Hp}{R:V->V->Hp->Prop}(I:Inv X b_ Z H s)
  (h:ta Z H λx H1=>tb Z H1 λy H2=>R x y H2) {Q:Qqq} {f:Value->Value->Sem Value}
  (hf:∀v u s2 x y H2,Inv X b_ Z H2 s2->RelV x v->RelV y u->R x y H2->wpAny (model X.prog X.w) X.A (f v u) Q X.xe s2) :
  wpAny (model X.prog X.w) X.A (eval a X.env) (λv s₁=>wpAny (model X.prog X.w) X.A (eval b X.env) (λu s₂=>wpAny (model X.prog X.w) X.A (f v u) Q X.xe s₂) X.xe s₁) X.xe s:=by
 refine iX (ha b_ s Z H _ I h) λv s1 iG=>?_
 obtain⟨x,H1,I1,r1,q1⟩:=iG
 refine iX (hb b_ s1 Z H1 _ I1 q1) λu s2 iG=>?_
 obtain⟨y,H2,I2,r2,q2⟩:=iG
 exact hf v u s2 x y H2 I2 r1 r2 q2
theorem gn{op:Operator}{r:R2}(ho:ye X (binaryOp op) r)(ha:PE X a ta)(hb:PE X b tb):PE X (.BinOp a op b pos) (QA r ta tb):=by
 intro b_ s Z H Q I h
 exact wpAny_BinOp (Nw ha hb I h λv u s2 x y H2 I2 rx ry q=>ho b_ s2 Z H2 x y v u Q I2 rx ry q)
theorem yy{op:UnaryOp}{r:V->Hp->VK->Prop}(ho:UO X (unaryOp op) r)(ha:PE X a ta):PE X (.UnaryOp op a pos) (tUn r ta):=by
 intro b_ s Z H Q I h
 exact UnaryOp_ (iX (ha b_ s Z H _ I h) λv s1 ⟨x,H1,I1,r1,q1⟩=>ho b_ s1 Z H1 x v Q I1 r1 q1)
theorem UQ{f:Value->Value->Sem Value}{C:Int->Int->Prop}{g:Int->Int->Int}
  (rule:∀(i j:Int)(t u:Tok)(s:Shared)(Q:Qqq)(E:Qqq),C i j->Q (.int (g i j) s.toks) {s with toks:=s.toks+1}->wpAny (model X.prog X.w) X.A (f (.int i t) (.int j u)) Q E s) :
  ye X f (rI C λi j=>.int (g i j)):=by
 intro b_ s Z H x y v u Q I rx ry h
 obtain⟨i,j,rfl,rfl,hc,q⟩:=h
 obtain⟨t,rfl⟩:=rx
 obtain⟨t',rfl⟩:=ry
 exact rule i j t t' s _ _ hc ⟨.int (g i j),H,I.tok _,⟨_,rfl⟩,q⟩
theorem QB{f:Value->Value->Sem Value}{g:Int->Int->Int}
  (rule:∀(i j:Int)(t u:Tok)(s:Shared)(Q:Qqq)(E:Qqq),Q (.int (g i j) s.toks) {s with toks:=s.toks+1}->wpAny (model X.prog X.w) X.A (f (.int i t) (.int j u)) Q E s) :
  ye X f (Nv λi j=>.int (g i j)):=by
 intro b_ s Z H x y v u Q I rx ry h
 obtain⟨i,j,rfl,rfl,q⟩:=h
 obtain⟨t,rfl⟩:=rx
 obtain⟨t',rfl⟩:=ry
 exact rule i j t t' s _ _ ⟨.int (g i j),H,I.tok _,⟨_,rfl⟩,q⟩
theorem Ny{f:Value->Value->Sem Value}{g:Int->Int->Bool}
  (rule:∀(i j:Int)(t u:Tok)(s:Shared)(Q:Qqq)(E:Qqq),Q (.bool (g i j)) s->wpAny (model X.prog X.w) X.A (f (.int i t) (.int j u)) Q E s) :
  ye X f (Nv λi j=>.bl (g i j)):=by
 intro b_ s Z H x y v u Q I rx ry h
 obtain⟨i,j,rfl,rfl,q⟩:=h
 obtain⟨t,rfl⟩:=rx
 obtain⟨t',rfl⟩:=ry
 exact rule i j t t' s _ _ ⟨.bl (g i j),H,I,rfl,q⟩
def UR(i j:Int):Prop:=0<j/\j<1073741824
def Nz(i j:Int):Prop:=(-(2 ^ 64)<i/\i<2 ^ 64)\/(-(2 ^ 64)<j/\j<2 ^ 64)
theorem Nz.ok{i j:Int}(h:Nz i j):IntMulOk i j:=by
 rcases h with⟨h1,h2⟩|⟨h1,h2⟩
 ·exact .of_left (intBits_le_64 h1 h2)
 ·exact .of_right (intBits_le_64 h1 h2)
theorem ik:ye X (binaryOp .Add) (Nv λi j=>.int (i+j)):=QB λ_ _ _ _ _ _ _ q=>add_int q
theorem yz:ye X (binaryOp .Sub) (Nv λi j=>.int (i-j)):=QB λ_ _ _ _ _ _ _ q=>sub_int q
theorem vN:ye X (binaryOp .Mult) (rI Nz λi j=>.int (i*j)):=UQ λ_ _ _ _ _ _ _ hc q=>mul_int q hc.ok
theorem j4:ye X (binaryOp .FloorDiv) (rI UR λi j=>.int (i/j)):=UQ λi j _ _ _ _ _ hc q=>by
 have h1:(0:Int)<j:=hc.1
 have h2:j<1073741824:=hc.2
 exact floordiv_int (by omega) (by rw[Int.fdiv_eq_ediv_of_nonneg i (by omega)];exact q) (.inl (PyProof.noPylong_small (by omega)))
theorem jo:ye X (binaryOp .Mod) (rI (λ_ j=>0<j) λi j=>.int (i%j)):=UQ λi j _ _ _ _ _ hc q=>by
 have h1:(0:Int)<j:=hc
 exact mod_int' (by omega) (by rw[Int.fmod_eq_emod_of_nonneg i (by omega)];exact q)
theorem unI{f:Value->Sem Value}{g:Int->Int}
  (rule:∀(i:Int)(t:Tok)(s:Shared)(Q:Qqq)(E:Qqq),Q (.int (g i) s.toks) {s with toks:=s.toks+1}->wpAny (model X.prog X.w) X.A (f (.int i t)) Q E s) :
  UO X f (rU λi=>.int (g i)):=by
 intro b_ s Z H x v Q I rx h
 obtain⟨i,rfl,q⟩:=h
 obtain⟨t,rfl⟩:=rx
 exact rule i t s _ _ ⟨.int (g i),H,I.tok _,⟨_,rfl⟩,q⟩
theorem tY:UO X (unaryOp .USub) (rU λi=>.int (-i)):=unI λ_ _ _ _ _ q=>neg_int q
end
noncomputable def NA:V->V->Bool
 | .jb,.jb=>true|.jb,.int _=>true|.int _,.jb=>true|.jb,.bl _=>true|.bl _,.jb=>true|.jb,.str _=>true|.str _,.jb=>true
 | .int _,.int _=>true|.bl _,.bl _=>true|.str _,.str _=>true|.Ep _,.Ep _=>true
 | .int _,.str _=>true|.str _,.int _=>true|.bl _,.str _=>true|.str _,.bl _=>true
 | _,_=>false
noncomputable def rEq:R2:=λx y H Q=>NA x y=true/\Q (.bl (decide (x=y))) H
noncomputable def rNe:R2:=λx y H Q=>NA x y=true/\Q (.bl (!decide (x=y))) H
theorem FA{i j:Int}:decide (V.int i=V.int j)=(i ==j):=by
 rw[abI]
 simp
theorem HP{i j:Bool}:decide (V.bl i=V.bl j)=(i ==j):=by
 rw[abI]
 simp
theorem FC{i j:Str}:decide (V.str i=V.str j)=(i ==j):=by
 rw[abI]
 simp
theorem FD{i j:Array UInt8}:decide (V.Ep i=V.Ep j)=(i.toList ==j.toList):=by
 rw[abI]
 cases i
 cases j
 simp
section
variable{X:Cx}{a b c:Expr}{ta tb tc:TE}{pos:Pos}
theorem iN{b_:Qqz}{Z:St}{H:Hp}{s:Shared}{Q:VK}{k k':Bool}(I:Inv X b_ Z H s)(q:Q (.bl k) H)(e:k=k'):EP X b_ Z Q (.bool k') s:=by
 subst e
 exact⟨.bl k,H,I,rfl,q⟩
theorem lh:ye X (compareOp .Eq) rEq:=by
 intro b_ s Z H x y v u Q I rx ry h
 obtain⟨hs,q⟩:=h
 cases x with
 | jb=>
  cases rx
  cases y with
  | jb=>cases ry;exact PySem.EqNone.eq_none_none (iN I q (by simp))
  | bl j=>cases ry;exact PySem.EqNone.eq_none_bool (iN I q (by simp))
  | int j=>obtain⟨t',rfl⟩:=ry;exact PySem.EqNone.eq_none_int (iN I q (by simp))
  | str j=>obtain⟨t',rfl⟩:=ry;exact PySem.EqNone.eq_none_str (iN I q (by simp))
  | _=>exact absurd (show false=true from hs) aab
 | bl i=>
  cases rx
  cases y with
  | jb=>cases ry;exact PySem.EqNone.eq_bool_none (iN I q (by simp))
  | bl j=>cases ry;exact eq_bool (iN I q HP)
  | str j=>obtain⟨t',rfl⟩:=ry;exact PySem.EqMixed.eq_bool_str (iN I q (by simp))
  | _=>exact absurd (show false=true from hs) aab
 | int i=>
  obtain⟨t,rfl⟩:=rx
  cases y with
  | jb=>cases ry;exact PySem.EqNone.eq_int_none (iN I q (by simp))
  | int j=>obtain⟨t',rfl⟩:=ry;exact eq_int (iN I q FA)
  | str j=>obtain⟨t',rfl⟩:=ry;exact PySem.EqMixed.eq_int_str (iN I q (by simp))
  | _=>exact absurd (show false=true from hs) aab
 | str i=>
  obtain⟨t,rfl⟩:=rx
  cases y with
  | jb=>cases ry;exact PySem.EqNone.eq_str_none (iN I q (by simp))
  | bl j=>cases ry;exact PySem.EqMixed.eq_str_bool (iN I q (by simp))
  | int j=>obtain⟨t',rfl⟩:=ry;exact PySem.EqMixed.eq_str_int (iN I q (by simp))
  | str j=>obtain⟨t',rfl⟩:=ry;exact eq_str (iN I q FC)
  | _=>exact absurd (show false=true from hs) aab
 | Ep i=>
  obtain⟨t,rfl⟩:=rx
  cases y with
  | Ep j=>obtain⟨t',rfl⟩:=ry;exact W.eq_bytes (iN I q FD)
  | _=>exact absurd (show false=true from hs) aab
 | _=>cases y<;>exact absurd (show false=true from hs) aab
theorem FE:ye X (compareOp .NotEq) rNe:=by
 intro b_ s Z H x y v u Q I rx ry h
 obtain⟨hs,q⟩:=h
 cases x with
 | jb=>
  cases rx
  cases y with
  | jb=>cases ry;exact PySem.EqNone.ne_none_none (iN I q (by simp))
  | bl j=>cases ry;exact PySem.EqNone.ne_none_bool (iN I q (by simp))
  | int j=>obtain⟨t',rfl⟩:=ry;exact PySem.EqNone.ne_none_int (iN I q (by simp))
  | str j=>obtain⟨t',rfl⟩:=ry;exact PySem.EqNone.ne_none_str (iN I q (by simp))
  | _=>exact absurd (show false=true from hs) aab
 | bl i=>
  cases rx
  cases y with
  | jb=>cases ry;exact PySem.EqNone.ne_bool_none (iN I q (by simp))
  | bl j=>cases ry;exact ne_bool (iN I q (aaQ not HP))
  | str j=>obtain⟨t',rfl⟩:=ry;exact PySem.EqMixed.ne_bool_str (iN I q (by simp))
  | _=>exact absurd (show false=true from hs) aab
 | int i=>
  obtain⟨t,rfl⟩:=rx
  cases y with
  | jb=>cases ry;exact PySem.EqNone.ne_int_none (iN I q (by simp))
  | int j=>obtain⟨t',rfl⟩:=ry;exact ne_int (iN I q (aaQ not FA))
  | str j=>obtain⟨t',rfl⟩:=ry;exact PySem.EqMixed.ne_int_str (iN I q (by simp))
  | _=>exact absurd (show false=true from hs) aab
 | str i=>
  obtain⟨t,rfl⟩:=rx
  cases y with
  | jb=>cases ry;exact PySem.EqNone.ne_str_none (iN I q (by simp))
  | bl j=>cases ry;exact PySem.EqMixed.ne_str_bool (iN I q (by simp))
  | int j=>obtain⟨t',rfl⟩:=ry;exact PySem.EqMixed.ne_str_int (iN I q (by simp))
  | str j=>obtain⟨t',rfl⟩:=ry;exact ne_str (iN I q (aaQ not FC))
  | _=>exact absurd (show false=true from hs) aab
 | Ep i=>
  obtain⟨t,rfl⟩:=rx
  cases y with
  | Ep j=>obtain⟨t',rfl⟩:=ry;exact W.ne_bytes (iN I q (aaQ not FD))
  | _=>exact absurd (show false=true from hs) aab
 | _=>cases y<;>exact absurd (show false=true from hs) aab
theorem AE:ye X (compareOp .Lt) (Nv λi j=>.bl (decide (i<j))):=Ny λ_ _ _ _ _ _ _ q=>lt_int q
theorem Mu:ye X (compareOp .LtE) (Nv λi j=>.bl (decide (i<=j))):=Ny λ_ _ _ _ _ _ _ q=>le_int q
theorem HQ:ye X (compareOp .Gt) (Nv λi j=>.bl (decide (j<i))):=Ny λ_ _ _ _ _ _ _ q=>gt_int q
theorem Bn:ye X (compareOp .NotIn) (λx y H Q=>∃i j,x=.str i/\y=.str j/\Q (.bl (!(!(Builtin.Str.occurrences j i 0 j.length 1).isEmpty))) H):=by
 intro b_ s Z H x y v u Q I rx ry h
 obtain⟨i,j,rfl,rfl,q⟩:=h
 obtain⟨t,rfl⟩:=rx
 obtain⟨t',rfl⟩:=ry
 exact notIn_str (iN I q rfl)
theorem iy(b:Expr){op:CmpOp}(h:op≠.In:=by decide)(h2:op≠.NotIn:=by decide):behindInMarks op b=false:=by
 have e1:(op ==CmpOp.In)=false:=by cases op<;>first|rfl|exact absurd rfl h
 have e2:(op ==CmpOp.NotIn)=false:=by cases op<;>first|rfl|exact absurd rfl h2
 cases b<;>simp[behindInMarks,e1,e2]
theorem FF{op:CmpOp}{r:R2}(ho:ye X (compareOp op) r)(ha:PE X a ta)(hb:PE X b tb)(hm:behindInMarks op b=false):PE X (.Compare a [op] [b] pos) (QA r ta tb):=by
 intro b_ s Z H Q I h
 exact wpAny_Compare1 (Nw ha hb I h λv u s2 x y H2 I2 rx ry q=>ho b_ s2 Z H2 x y v u Q I2 rx ry q) hm
def Mv(t:TE):TT:=λZ H Q=>t Z H λx H'=>bK x H' Q
theorem ij{op:CmpOp}{r:R2}(ho:ye X (compareOp op) r)(ha:PE X a ta)(hb:PE X b tb)(hm:behindInMarks op b=false):PT X (.Compare a [op] [b] pos) (Mv (QA r ta tb)):=by
 intro b_ s Z H Q I h
 refine wpAny_isTrue_Compare1 (iX (ha b_ s Z H _ I h) λv s1 ⟨x,H1,I1,r1,q1⟩=>iX (hb b_ s1 Z H1 _ I1 q1) λu s2 ⟨y,H2,I2,r2,q2⟩=>
  iX (ho b_ s2 Z H2 x y v u _ I2 r1 r2 q2) λc s3 ⟨z,H3,I3,r3,k,e,q3⟩=>?_) hm
 subst e
 cases r3
 exact abv ⟨H3,I3,q3⟩
def NB(r r':R2)(ta tb tc:TE):TE:=λZ H Q=>ta Z H λx H1=>tb Z H1 λy H2=>r x y H2 λz H3=>∃k,z=.bl k/\
 (if k=true then tc Z H3 λw' H4=>r' y w' H4 Q else Q (.bl false) H3)
theorem HR{op VE:CmpOp}{r r':R2}(ho:ye X (compareOp op) r)(qr:ye X (compareOp VE) r')(ha:PE X a ta)(hb:PE X b tb)(hc:PE X c tc)
  (hm:lastMarks [op,VE] [b,c]=false:=by with_unfolding_all rfl):PT X (.Compare a [op,VE] [b,c] pos) (Mv (NB r r' ta tb tc)):=by
 intro b_ s Z H Q I h
 refine isTrue_chain (iX (ha b_ s Z H _ I h) λv s1 ⟨x,H1,I1,r1,q1⟩=>test_link (iX (hb b_ s1 Z H1 _ I1 q1) λu s2 ⟨y,H2,I2,r2,q2⟩=>
  iX (ho b_ s2 Z H2 x y v u _ I2 r1 r2 q2) λd s3 ⟨z,H3,I3,r3,k,e,q3⟩=>?_)) hm
 subst e
 cases r3
 refine abv ?_
 cases k with
 | false=>
  obtain⟨k',e',q'⟩:=q3
  cases e'
  exact ite_ff ⟨H3,I3,q'⟩
 | true=>
  refine ite_tt (test_last (iX (hc b_ s3 Z H3 _ I3 q3) λw' s4 iG=>?_))
  obtain⟨z',H4,I4,r4,q4⟩:=iG
  refine iX (qr b_ s4 Z H4 y z' u w' _ I4 r2 r4 q4) λd' s5 Hx=>?_
  obtain⟨z2,H5,I5,r5,k2,e2,q5⟩:=Hx
  subst e2
  cases r5
  exact abv ⟨H5,I5,q5⟩
def QC(K:Qqy)(x:V)(H:Hp)(k:Bool):Prop:=
 match x with
 | .jb=>k=false
 | .bl b=>k=b
 | .int i=>k=(i != 0)
 | .str y=>y.length<=sizeLine/\k=((y.length:Int) != 0)
 | .Ep y=>y.size<=sizeLine/\k=((y.size:Int) != 0)
 | .ref p=>(∃xs,h_ K H p xs/\k=!xs.isEmpty)\/(∃xs,qT K H p xs/\k=!xs.isEmpty)\/∃kvs,H p=some (.dK kvs)/\k=!kvs.isEmpty
 | _=>False
theorem Es{Z:Type}{kvs:List (Z×V)}{vs:List (Z×Value)}(r:KV kvs vs):(!vs.isEmpty)=!kvs.isEmpty:=by
 cases r<;>rfl
theorem yA{xs:List V}{ib:List Value}(r:Vals xs ib):(!ib.toArray.isEmpty)=!xs.isEmpty:=by
 cases r<;>simp
theorem tZ:(sizeLine:Nat)<2 ^ 63:=by rw[acr];decide
theorem NC:UP X (λx H Q=>∃k,QC X.K x H k/\Q k H):=by
 intro b_ s Z H x v Q I rx h
 obtain⟨k,e,q⟩:=h
 have hl:=tZ
 have hs:sizeLine=16777216:=acr
 cases x with
 | jb=>
  cases rx
  have e':k=false:=e
  subst e'
  exact truthy_none ⟨H,I,q⟩
 | bl b=>
  cases rx
  have e':k=b:=e
  subst e'
  exact abv ⟨H,I,q⟩
 | int i=>
  obtain⟨t,rfl⟩:=rx
  have e':k=(i != 0):=e
  subst e'
  exact PySem.P.truthy_int ⟨H,I,q⟩
 | str y=>
  obtain⟨t,rfl⟩:=rx
  obtain⟨hy,e'⟩:y.length<=sizeLine/\k=((y.length:Int) != 0):=e
  subst e'
  exact PySem.P.truthy_str (by omega) ⟨H,I.tok _,q⟩
 | Ep y=>
  obtain⟨t,rfl⟩:=rx
  obtain⟨hy,e'⟩:y.size<=sizeLine/\k=((y.size:Int) != 0):=e
  subst e'
  exact W.truthy_bytes (by omega) ⟨H,I.tok _,q⟩
 | ref p=>
  cases rx
  have e':(∃xs,h_ X.K H p xs/\k=!xs.isEmpty)\/(∃xs,qT X.K H p xs/\k=!xs.isEmpty)\/∃kvs,H p=some (.dK kvs)/\k=!kvs.isEmpty:=e
  rcases e' with⟨xs,hx,e'⟩|⟨xs,hx,e'⟩|⟨kvs,hx,e'⟩
  ·subst e'
   obtain⟨ib,r,pl,hz⟩:=I.list hx
   have hlen:=r.length
   exact wpAny_truthy_list pl.isList (by simp only [aaa];omega) ⟨H,I.tok _,by rw[yA r];exact q⟩
  ·subst e'
   obtain⟨ib,r,pl,hz⟩:=I.tuple hx
   have hlen:=r.length
   exact truthy_tuple pl (by simp only [aaa];omega) ⟨H,I.tok _,by rw[yA r];exact q⟩
  ·subst e'
   obtain⟨hz,hS,vs,r,m⟩:kvs.length<=sizeLine/\(p ==sysModules)=false/\∃vs,KV kvs vs/\s.heap.DictOf (ja X.prog X.w) p vs:=I.iC p _ hx
   have hlen:kvs.length=vs.length:=aaj r
   exact wpAny_truthy_dict hS m (by omega) ⟨H,I.tok _,by rw[Es r];exact q⟩
 | _=>exact(show False from e).elim
theorem uD(ha:PE X a ta)(he:∀whole,isTrue a X.env whole=(do let v <-whole;standAt a.pos;holding [v] (truthy v))) :
  PT X a (λZ H Q=>ta Z H λx H'=>∃k,QC X.K x H' k/\Q k H'):=by
 intro b_ s Z H Q I h
 exact isTrue_plain (iX (ha b_ s Z H _ I h) λv s1 ⟨x,H1,I1,r1,q1⟩=>NC b_ s1 Z H1 x v Q I1 r1 q1) (he _)
theorem yB:ye X (binaryOp .Add) (λx y H Q=>∃i j,x=.str i/\y=.str j/\i.length+j.length<=sizeLine/\Q (.str (i++j)) H):=by
 intro b_ s Z H x y v u Q I rx ry h
 obtain⟨i,j,rfl,rfl,hz,q⟩:=h
 obtain⟨t,rfl⟩:=rx
 obtain⟨t',rfl⟩:=ry
 exact add_str (λt' tk=>⟨.str (i++j),H,I.tok _,⟨_,rfl⟩,q⟩) hz
theorem vals1{x:V}{us:List Value}(r:Vals [x] us):∃u,us=[u]/\RelV x u:=by
 cases r with
 | cons r1 r2=>cases r2;exact⟨_,rfl,r1⟩
theorem vals2{x y:V}{us:List Value}(r:Vals [x,y] us):∃u w',us=[u,w']/\RelV x u/\RelV y w':=by
 cases r with
 | cons r1 r2=>
  cases r2 with
  | cons r3 r4=>cases r4;exact⟨_,_,rfl,r1,r3⟩
theorem vO(hc:X.calm=true):qE X (.builtin "max") (λxs H Q=>∃i j,xs=[.int i,.int j]/\Q (.int (if j>i then j else i)) H):=by
 intro b_ s Z H xs us Q I r h
 obtain⟨i,j,rfl,q⟩:=h
 obtain⟨u,w',rfl,⟨t,rfl⟩,⟨t',rfl⟩⟩:=vals2 r
 refine max_two_ints (I.ok.hd hc) λh' tk k=>⟨_,H,I.kept k,?_,q⟩
 by_cases hj:j>i
 ·rw[aag hj,aag hj];exact⟨_,rfl⟩
 ·rw[aac hj,aac hj];exact⟨_,rfl⟩
theorem Gz:qE X (.type "int") (λxs H Q=>(∃i,xs=[.int i]/\Q (.int i) H)\/∃k,xs=[.bl k]/\Q (.int (if k then 1 else 0)) H):=by
 intro b_ s Z H xs us Q I r h
 rcases h with⟨i,rfl,q⟩|⟨k,rfl,q⟩
 ·obtain⟨u,rfl,t,rfl⟩:=vals1 r
  exact call_int_int ⟨.int i,H,I,⟨_,rfl⟩,q⟩
 ·obtain⟨u,rfl,r1⟩:=vals1 r
  cases r1
  exact call_int_bool ⟨.int (if k then 1 else 0),H,I.tok _,⟨_,rfl⟩,q⟩
end
structure Et(h:Heap)(x dx C:Addr)(mA:Qqx):Prop where
 obj:h.get? x=some (W.instObj C dx)
 ns:h.Ns1 dx mA
 ne:dx≠x
theorem GA{h:Heap}{dx:Addr}{mA:Qqx}(n:h.Ns1 dx mA):∃od,h.get? dx=some od/\∀name,W.lookIn name od=some (mA name):=by
 obtain⟨o,es,ep,ho,hd,hk,_,hm⟩:=n
 refine⟨o,ho,λname=>?_⟩
 have e:=hm name
 unfold nsFind findBy at e
 rw[<-Array.find?_toList] at e
 unfold W.lookIn
 rw[hd]
 dsimp only
 split
 ·rename_i y q
  rw[q] at e
  exact aaQ some e
 ·rename_i q
  rw[q] at e
  have a:es.toList.any (·.refKey)=false:=by
   rw[List.any_eq_false]
   intro y hy
   obtain⟨z,t,OR⟩:=hk y (Array.mem_toList_iff.mp hy)
   simp[DictEntry.refKey,OR]
  have a':¬es.toList.any (·.refKey)=true:=by rw[a];exact aab
  rw[aac a']
  exact aaQ some e
theorem Et.look{h:Heap}{x dx C:Addr}{mA:Qqx}(I:Et h x dx C mA):∃od,W.InstAt h x (W.instObj C dx) C (some od)/\∀name,W.lookIn name od=some (mA name):=
 let ⟨od,ho,hl⟩:=GA I.ns
 ⟨od,⟨I.obj,rfl,rfl,ho⟩,hl⟩
section
variable{prog:Program}{w:World}{A:Around}{E:Qqq}{s:Shared}{K:Qqy}{x dx C f:Addr}{mA:Qqx}{name:Str}{v:Value}
theorem get_map{expr:Bool}{Q:Qqq}(X:K.In s.heap)(I:Et s.heap x dx C mA)(hg:W.plainGet K C name=true)(hh:W.hasDictIn K C=true)
  (ha:W.findIn K (.ref C) name=some none) (hv:mA name=some v) (hv':W.handedIn v=true) (h:Q v {s with toks:=s.toks+1}) :
  wpAny (model prog w) A (getAttr (.ref x) name expr) Q E s:=by
 obtain⟨od,J,hl⟩:=I.look
 exact W.get_value X J (W.plainGet_of hg).1 (W.findObj_own hh ha rfl (by rw[hl,hv])) hv' h
theorem HS{pl:Sem Bool}{Q:Value×List Value->Shared->Prop}(X:K.In s.heap)(I:Et s.heap x dx C mA)(hg:W.plainGet K C name=true)
  (hf:W.findIn K (.ref C) name=some (some (.ref f))) (ht:W.isFn K (.ref f)=true) (hv:mA name=none) (h:Q (.ref f,[.ref x]) s) :
  wpAny (model prog w) A (getMethod (.ref x) name pl) Q E s:=by
 obtain⟨od,J,hl⟩:=I.look
 exact W.method_fn X J (W.plainGet_of hg).1 (W.plainGet_of hg).2 hf (abN.mp ht) (by show(W.lookIn name od).map (·.isSome)=some false;rw[hl,hv];rfl) h
theorem KN{ns:List Str}{Q:Unit->Shared->Prop}(X:K.In s.heap)(I:Et s.heap x dx C mA)
  (hs:W.findIn K (.ref C) "__setattr__"=some (some (.builtin "object.__setattr__"))) (hp:W.plainOver K C=true) (ht:W.takerIn K C name=some none) (hh:W.hasDictIn K C=true)
  (hw:PySem.Within mA ns) (hsz:ns.length<=sizeLine)
  (h:∀h',Et h' x dx C (λy=>if y=name then some v else mA y)->Heap.SameBut dx s.heap h'->Q () {s with heap:=h',toks:=s.toks+2}) :
  wpAny (model prog w) A (setAttr (.ref x) name v) Q E s:=by
 obtain⟨od,J,hl⟩:=I.look
 refine W.set_plain X J hs (W.osa_open (s:={s with toks:=s.toks+1}) (r:=none) X J hp ht λb=>?_)
 obtain⟨cd,hc,Vy⟩:=W.any_some hh
 have hx:s.heap.get? x=some ⟨.ref C,some dx,.plain,#[]⟩:=I.obj
 refine Ph (R8 (Ph (Ph (wpAny_loadPart hx (Ph (W.Looks.here (s:={s with toks:=s.toks+1}) (W.looks_clsIn X hc) ?_))))))
 rw[Vy]
 refine R8 (a:=some dx) (Ph (R8 (Ph ?_)))
 refine wpAny_nsSet1 (s:={s with toks:=s.toks+1}) I.ns λh' OS HE=>?_
 obtain⟨oD,esD,epD,hoD,hdD,hcD⟩:=OS.count (PySem.Within.cons name v hw)
 refine Ph (wpAny_lookBehind hoD (by rw[hdD];exact pastItsLine_dict (aao hcD (by rw[W7];omega))) ?_)
 exact R8 (h _ ⟨(HE.2 _ (abE I.ne)).trans I.obj,OS,I.ne⟩ HE)
theorem HU{R:Result->Shared->Prop}{vs:List Value}{kw:List (Str×Value)}(X:K.In s.heap)(hm:W.makesIn K C=true)
  (hi:W.findIn K (.ref C) "__init__"=some (some (.ref f))) (hf:W.typeIn K (.ref f)=some (.type "function"))
  (h:codeAny (model prog w) (A.under (.builtin "type.__call__" ⟨.ref C::vs,kw⟩)) (.call (.ref f) ⟨.ref (s.heap.objs.size+1)::vs,kw⟩) (W.InitBack (s.heap.objs.size+1) R)
   {s with heap:=(s.heap.push W.emptyDict).push (W.instObj C s.heap.objs.size)}) :
  codeAny (model prog w) A (.call (.ref C) ⟨vs,kw⟩) R s:=by
 obtain⟨hh,g,d,t,os⟩:=s
 exact W.make_core (W.makes_of X hm) (W.looks_findIn X hi) (λself=>W.bind_fn X self hf) (.inl rfl) h
end
noncomputable def jz(f:Str)(v:V):List (Str×V)->List (Str×V)
 | []=>[(f,v)]
 | (g,x)::r=>if g=f then(g,v)::r else(g,x)::jz f v r
theorem w6(f g:Str)(v:V):∀fs:List (Str×V),(jz f v fs).lookup g=if g=f then some v else fs.lookup g
 | []=>by
  show List.lookup g [(f,v)]=_
  by_cases h:g=f
  ·have hb:(g ==f)=true:=abN.mpr h
   simp only [List.lookup,hb,aag h]
  ·have hb:(g ==f)=false:=abt.mpr h
   simp only [List.lookup,hb,aac h]
 | (k,x)::r=>by
  have ih:=w6 f g v r
  rw[show jz f v ((k,x)::r)=(if k=f then(k,v)::r else(k,x)::jz f v r) from rfl]
  by_cases hk:k=f
  ·rw[aag hk]
   by_cases h:g=k
   ·have hb:(g ==k)=true:=abN.mpr h
    simp only [List.lookup,hb,aag (h.trans hk)]
   ·have hb:(g ==k)=false:=abt.mpr h
    simp only [List.lookup,hb,aac (λe:g=f=>h (e.trans hk.symm))]
  ·rw[aac hk]
   by_cases h:g=k
   ·have hb:(g ==k)=true:=abN.mpr h
    simp only [List.lookup,hb,aac (λe:g=f=>hk (h.symm.trans e))]
   ·have hb:(g ==k)=false:=abt.mpr h
    simp only [List.lookup,hb]
    exact ih
theorem vP(f:Str)(v:V):∀fs:List (Str×V),f∈(jz f v fs).map (·.1)/\∀g,g∈fs.map (·.1)->g∈(jz f v fs).map (·.1)
 | []=>⟨by simp[jz],λg h=>by simp at h⟩
 | (k,x)::r=>by
  obtain⟨i1,i2⟩:=vP f v r
  rw[show jz f v ((k,x)::r)=(if k=f then(k,v)::r else(k,x)::jz f v r) from rfl]
  by_cases hk:k=f
  ·rw[aag hk]
   subst hk
   exact⟨by simp,λg h=>by simpa using h⟩
  ·rw[aac hk]
   refine⟨?_,λg h=>?_⟩
   ·rw[aat]
    exact YE _ i1
   ·rw[aat] at h ⊢
    rcases V9.mp h with e|e
    ·exact V9.mpr (.inl e)
    ·exact YE _ (i2 g e)
theorem w_(f:Str)(v:V):∀fs:List (Str×V),(jz f v fs).length<=fs.length+1
 | []=>by simp[jz]
 | (k,x)::r=>by
  have ih:=w_ f v r
  rw[show jz f v ((k,x)::r)=(if k=f then(k,v)::r else(k,x)::jz f v r) from rfl]
  by_cases hk:k=f
  ·rw[aag hk,W7,W7];omega
  ·rw[aac hk,W7,W7];omega
theorem pS.some_of{v:V}{o:Option Value}(r:pS (some v) o):∃u,o=some u/\RelV v u:=by
 cases o with
 | none=>exact(show False from r).elim
 | some u=>exact⟨u,rfl,r⟩
theorem pS.none_of{o:Option Value}(r:pS none o):o=none:=by
 cases o with
 | none=>rfl
 | some u=>exact(show False from r).elim
theorem GB{v:V}{u:Value}(r:RelV v u):W.handedIn u=true:=by
 cases v with
 | jb=>cases (show u=Value.none from r);rfl
 | bl b=>cases (show u=Value.bool b from r);rfl
 | int i=>obtain⟨t,e⟩:=(show ∃t,u=Value.int i t from r);cases e;rfl
 | str x=>obtain⟨t,e⟩:=(show ∃t,u=Value.str x t from r);cases e;rfl
 | Ep b=>obtain⟨t,e⟩:=(show ∃t,u=Value.bytes b t from r);cases e;rfl
 | Mo b=>obtain⟨t,e⟩:=(show ∃t,u=Value.float b t from r);cases e;rfl
 | ref a=>cases (show u=Value.ref a from r);rfl
 | ty n=>cases (show u=Value.type n from r);rfl
section
variable{P:Program}{w:World}{H H':Hp}{h h':Heap}{a C dx:Addr}{fs fs':List (Str×V)}
theorem yf(iC:qD P w H h)(e:H a=some (.ins C dx fs)):∃mA,Et h a dx C mA/\(∀f,pS (fs.lookup f) (mA f))/\PySem.Within mA (fs.map (·.1))/\fs.length<=1000/\H dx=some (.own a):=by
 obtain⟨d,z,ne,ob,mA,n,r,q⟩:=(show iR P w H h a (.ins C dx fs) from iC a _ e)
 exact⟨mA,⟨ob,n,ne⟩,r,q,z,d⟩
end
structure El(K:Qqy)(C:Addr):Prop where
 pg:W.plainGet K C Str.empty=true
 hd:W.hasDictIn K C=true
 po:W.plainOver K C=true
 sa:W.findIn K (.ref C) "__setattr__"=some (some (.builtin "object.__setattr__"))
theorem El.get{K:Qqy}{C:Addr}(c:El K C)(f:Str):W.plainGet K C f=true:=c.pg
def jT(K:Qqy)(C:Addr)(f:Str):Prop:=W.findIn K (.ref C) f=some none
theorem jT.QD{K:Qqy}{C:Addr}{f:Str}(n:jT K C f):W.takerIn K C f=some none:=by
 unfold W.takerIn
 rw[show W.findIn K (.ref C) f=some none from n]
 rfl
structure Meth(K:Qqy)(C:Addr)(m:Str)(f:Addr):Prop where
 at_:W.findIn K (.ref C) m=some (some (.ref f))
 fn:W.isFn K (.ref f)=true
 kp:W.keepIn K (.ref f)=true
section
variable{X:Cx}{b_:Qqz}{Z:St}{H:Hp}{s:Shared}{a C dx:Addr}{fs:List (Str×V)}{f:Str}{v:V}{A:Around}{E:Qqq}
theorem Eu{b:Bool}{Q:Qqq}(I:Inv X b_ Z H s)(e:H a=some (.ins C dx fs))(c:El X.K C)(n:jT X.K C f)(l:fs.lookup f=some v)
  (h:∀u s',Inv X b_ Z H s'->RelV v u->Q u s'):wpAny (model X.prog X.w) A (getAttr (.ref a) f b) Q E s:=by
 obtain⟨mA,O,r,_,_,_⟩:=yf I.iC e
 obtain⟨u,hu,ru⟩:=pS.some_of (v:=v) (o:=mA f) (by rw[<-l];exact r f)
 exact get_map I.wZ O (c.get f) c.hd n hu (GB ru) (h u _ (I.tok _) ru)
theorem yC{m:Str}{g:Addr}{pl:Sem Bool}{Q:Value×List Value->Shared->Prop}(I:Inv X b_ Z H s)(e:H a=some (.ins C dx fs))(c:El X.K C)(k:Meth X.K C m g)(l:fs.lookup m=none)
  (h:Q (.ref g,[.ref a]) s):wpAny (model X.prog X.w) A (getMethod (.ref a) m pl) Q E s:=by
 obtain⟨mA,O,r,_,_,_⟩:=yf I.iC e
 have hn:mA m=none:=pS.none_of (by rw[<-l];exact r m)
 exact HS I.wZ O (c.get m) k.at_ k.fn hn h
theorem Ew{y:V}{u:Value}{Q:Unit->Shared->Prop}(I:Inv X b_ Z H s)(e:H a=some (.ins C dx fs))(c:El X.K C)(n:jT X.K C f)(hl:fs.length<1000)(ry:RelV y u)
  (h:∀s',Inv X b_ Z (upd H a (.ins C dx (jz f y fs))) s'->Q () s'):wpAny (model X.prog X.w) A (setAttr (.ref a) f u) Q E s:=by
 obtain⟨mA,O,r,wi,_,ho⟩:=yf I.iC e
 have hz:(fs.map (·.1)).length<=sizeLine:=by rw[QU,acr];omega
 refine KN I.wZ O c.sa c.po n.QD c.hd wi hz λh' O' sb=>h _ ?_
 have hd:∃o,h'.get? dx=some o:=let ⟨o,_,_,e',_⟩:=O'.ns;⟨o,e'⟩
 refine I.write (x:=a) (e:=dx) (by rw[e];exact True.intro) (.inr ho) (λb q hb z=>(sb.2 b hb).trans z) hd ?_
 refine⟨by rw[de O.ne];exact ho,?_,O.ne,O'.obj,_,O'.ns,λg=>?_,λg hg=>?_⟩
 ·have:=w_ f y fs;omega
 ·show pS ((jz f y fs).lookup g) (if g=f then some u else mA g)
  rw[w6]
  by_cases q:g=f
  ·rw[aag q,aag q];exact ry
  ·rw[aac q,aac q];exact r g
 ·by_cases q:g=f
  ·rw[q];exact(vP f y fs).1
  ·refine(vP f y fs).2 g (wi g λz=>hg ?_)
   show(if g=f then some u else mA g)=none
   rw[aac q];exact z
theorem Inv.made(I:Inv X b_ Z H s):Inv X b_ Z (upd (upd H s.heap.objs.size (.own (s.heap.objs.size+1))) (s.heap.objs.size+1) (.ins C s.heap.objs.size []))
  {s with heap:=(s.heap.push W.emptyDict).push (W.instObj C s.heap.objs.size)}:=by
 have e1:(s.heap.push W.emptyDict).get? s.heap.objs.size=some W.emptyDict:=YK s.heap rfl
 have e2:((s.heap.push W.emptyDict).push (W.instObj C s.heap.objs.size)).get? (s.heap.objs.size+1)=some (W.instObj C s.heap.objs.size):=by
  have:=YK (s.heap.push W.emptyDict) (o:=W.instObj C s.heap.objs.size) rfl
  rwa [aby] at this
 have e3:(s.heap.push W.emptyDict).Ns s.heap.objs.size (λ_=>none):=⟨W.emptyDict,#[],_,e1,rfl,(λe he=>absurd he (by simp)),λ_=>rfl⟩
 have I1:=I.laid (a:=s.heap.objs.size) (o:=.own (s.heap.objs.size+1)) (h':=s.heap.push W.emptyDict) (t':=s.toks) (λb u q=>Ve _ q) (Vb _) ⟨_,e1⟩
 refine I1.laid (a:=s.heap.objs.size+1) (o:=.ins C s.heap.objs.size []) (t':=s.toks) (λb u q=>Ve _ q) (Nat.le_of_eq (aby _ _)) ?_
 have ne:s.heap.objs.size≠s.heap.objs.size+1:=aaD (abA _)
 refine⟨by rw[de ne,a_],aaI _,ne,e2,λ_=>none,(Heap.Ns1.of_empty e3).at λo q=>Ve _ q,λ_=>True.intro,λy hy=>absurd rfl hy⟩
theorem KO{prog:Program}{w:World}{env:Env}{e:Expr}{f:Str}{pos:Pos}{s:Shared}{Q:Qqq}(hb:attributeBase e f env (eval e env)=eval e env)
  (h:wpAny (model prog w) A (eval e env) (λo s1=>wpAny (model prog w) A (getAttr o f true) Q E s1) E s):wpAny (model prog w) A (eval (.Attribute e f pos) env) Q E s:=
 Attribute_any_ h (by rw[arm_eval_Attribute,hb])
end
inductive fK(K:Qqy)(f:Str)(x:V)(H:Hp)(Q:VK):Prop
 | mk (a C dx:Addr) (fs:List (Str×V)) (v:V) (_:x=.ref a) (_:H a=some (.ins C dx fs)) (_:El K C) (_:jT K C f) (_:fs.lookup f=some v) (_:Q v H)
def US(K:Qqy)(ta:TE)(f:Str):TE:=λZ H Q=>ta Z H λx H1=>fK K f x H1 Q
def UT(K:Qqy)(ta tv:TE)(f:Str):TS:=λD Z H=>tv Z H λy H1=>ta Z H1 λx H2=>∃a C dx fs,x=.ref a/\H2 a=some (.ins C dx fs)/\El K C/\jT K C f/\fs.length<1000/\
 D.nx Z (upd H2 a (.ins C dx (jz f y fs)))
section
variable{X:Cx}{o e value:Expr}{f:Str}{pos pos' OT:Pos}{ta tv:TE}
theorem hU(he:PE X e ta)(hb:attributeBase e f X.env (eval e X.env)=eval e X.env):PE X (.Attribute e f pos) (US X.K ta f):=by
 intro b_ s Z H Q I h
 refine KO hb (iX (he b_ s Z H _ I h) λu s1 iG=>?_)
 obtain⟨x,H1,I1,rx,a,C,dx,fs,v,ex,ea,c,n,l,q⟩:=iG
 subst ex
 obtain rfl:u=Value.ref a:=rx
 exact Eu I1 ea c n l λu' s2 I2 ru=>⟨v,H1,I2,ru,q⟩
theorem lj(ha:PE X o ta)(hv:PE X value tv)(hs:swapsWith value (some (.Attribute o f pos')) pos.line X.env=pure false):PS X (.Assign [.Attribute o f pos'] value pos) (UT X.K ta tv f):=by
 intro b_ s Z H D I h
 refine plainObj_wpAny_Assign_Attribute (iX (hv b_ s Z H _ I h) λu s1 iG=>?_) hs
 obtain⟨y,H1,I1,ry,q⟩:=iG
 refine iX (ha b_ s1 Z H1 _ I1 q) λov s2 Hx=>?_
 obtain⟨x,H2,I2,rx,a,C,dx,fs,ex,ea,c,n,l,q2⟩:=Hx
 subst ex
 obtain rfl:ov=Value.ref a:=rx
 exact Ew I2 ea c n l ry λs3 I3=>⟨Z,_,I3,q2⟩
end
section
variable{X:Cx}{b_:Qqz}{Z:St}{H:Hp}{s:Shared}{A:Around}{E:Qqq}{Q:Qqq}{c:Value}{b:Bool}
inductive vQ(K:Qqy)(H:Hp):V->Value->Prop where
 | jb:vQ K H .jb (.type "NoneType")
 | bl (x:Bool):vQ K H (.bl x) (.type "bool")
 | int (i:Int):vQ K H (.int i) (.type "int")
 | str (x:Str):vQ K H (.str x) (.type "str")
 | Mo (x:UInt64):vQ K H (.Mo x) (.type "float")
 | lst {a:Addr} {xs:List V} (e:H a=some (.lst xs)):vQ K H (.ref a) (.type "list")
 | oh {a:Addr} {o:Obj} {xs:List V} (e:H a=some (.oh o (.lst xs))):vQ K H (.ref a) (.type "list")
 | tup {a:Addr} {xs:List V} (e:H a=some (.tup xs)):vQ K H (.ref a) (.type "tuple")
 | dK {a:Addr} {kvs:List (Key×V)} (e:H a=some (.dK kvs)):vQ K H (.ref a) (.type "dict")
 | dT {a:Addr} {kvs:List (List Key×V)} (e:H a=some (.dT kvs)):vQ K H (.ref a) (.type "dict")
 | ins {a C dx:Addr} {fs:List (Str×V)} (e:H a=some (.ins C dx fs)) (cl:El K C) (ha:W.findIn K (.ref C) "__class__"=some (some (.builtin "object.__class__")))
  (hn:W.specialIn K (.builtin "object.__class__") "__get__"=some (some (.builtin "getset_descriptor.__get__"))) (YS:W.takesIn K (.builtin "object.__class__")=some true)
  (hm:W.mroIn K C (.type "object")=some true):vQ K H (.ref a) (.ref C)
theorem GD{x:V}{u t:Value}(I:Inv X b_ Z H s)(rx:RelV x u)(ty:vQ X.K H x t)(e:W.kitOne X.K t c=some b)(h:∀tk,Q (.bool b) {s with toks:=tk}) :
  wpAny (model X.prog X.w) A (call (.builtin "isinstance") [u,c]) Q E s:=by
 cases ty with
 | jb=>cases (show u=Value.none from rx);exact abg W.kitx_none I.wZ True.intro e (λz=>nomatch z) h
 | bl y=>cases (show u=Value.bool y from rx);exact abg W.kitx_bool I.wZ True.intro e (λz=>nomatch z) h
 | int i=>obtain⟨t,q⟩:=(show ∃t,u=Value.int i t from rx);cases q;exact abg W.kitx_int I.wZ True.intro e (λz=>nomatch z) h
 | str y=>obtain⟨t,q⟩:=(show ∃t,u=Value.str y t from rx);cases q;exact abg W.kitx_str I.wZ True.intro e (λz=>nomatch z) h
 | Mo y=>obtain⟨t,q⟩:=(show ∃t,u=Value.float y t from rx);cases q;exact abg W.kitx_float I.wZ True.intro e (λz=>nomatch z) h
 | @lst a xs ea=>
  cases (show u=Value.ref a from rx)
  obtain⟨_,_,n,_,h1⟩:=(show iR X.prog X.w H s.heap a (.lst xs) from I.iC a _ ea)
  exact abg W.kitx_list I.wZ ⟨_,h1,rfl⟩ e (λz=>nomatch z) h
 | @oh a ob xs ea=>
  cases (show u=Value.ref a from rx)
  obtain⟨_,_,_,n,_,h1⟩:=(show iR X.prog X.w H s.heap a (.oh ob (.lst xs)) from I.iC a _ ea)
  exact abg W.kitx_list I.wZ ⟨_,h1,rfl⟩ e (λz=>nomatch z) h
 | @tup a xs ea=>
  cases (show u=Value.ref a from rx)
  obtain⟨_,_,_,p⟩:=(show iR X.prog X.w H s.heap a (.tup xs) from I.iC a _ ea)
  obtain⟨o,h1,h2,_⟩:=p
  exact abg W.kitx_tuple I.wZ ⟨o,h1,h2⟩ e (λz=>nomatch z) h
 | @dK a kvs ea=>
  cases (show u=Value.ref a from rx)
  obtain⟨_,_,vs,_,p⟩:=(show iR X.prog X.w H s.heap a (.dK kvs) from I.iC a _ ea)
  obtain⟨o,es,ep,h1,h2,_⟩:=p
  exact abg W.kitx_dict I.wZ ⟨o,h1,h2.1⟩ e (λz=>nomatch z) h
 | @dT a kvs ea=>
  cases (show u=Value.ref a from rx)
  obtain⟨_,_,xs,_,o,es,ep,h1,h2,_⟩:=(show iR X.prog X.w H s.heap a (.dT kvs) from I.iC a _ ea)
  exact abg W.kitx_dict I.wZ ⟨o,h1,h2.1⟩ e (λz=>nomatch z) h
 | @ins a C dx fs ea cl ha hn YS hm=>
  cases (show u=Value.ref a from rx)
  obtain⟨mA,O,_⟩:=yf I.iC ea
  obtain⟨od,J,_⟩:=O.look
  exact abg (W.kitx_own (cl.get _) cl.hd ha hn YS hm) I.wZ J e (λz=>nomatch z) h
end
structure ke(k:Nat)(A:Around):Prop where
 hd:A.handled=none
 dp:A.depth+3*k+5<recursionLimit
 un:A.units+16*k+200<cLine
theorem ke.mono{j k:Nat}{A:Around}(r:ke k A)(h:j<=k):ke j A:=⟨r.hd,by have:=r.dp;omega,by have:=r.un;omega⟩
theorem ke.deeper{k:Nat}{A:Around}(r:ke (k+1) A)(env:Env):ke k (A.deeper env):=
 ⟨r.hd,by have:=r.dp;show A.depth+1+3*k+5<_;omega,by have:=r.un;show A.units+3+16*k+200<_;omega⟩
theorem Ex{A:Around}{C:Addr}{us:List Value}{kw:List (Str×Value)}:(A.under (.builtin "type.__call__" ⟨.ref C::us,kw⟩)).depth=A.depth+1:=by
 first|rfl|simp[Around.under,Code.weight,Code.isCreation,Code.isGuard,Code.isCaller,Code.frames,Code.isFrame,guardIds]
theorem Ey{A:Around}{C:Addr}{us:List Value}{kw:List (Str×Value)}:(A.under (.builtin "type.__call__" ⟨.ref C::us,kw⟩)).units=A.units+1:=by
 first|rfl|simp[Around.under,Code.cUnits,Code.frames,Code.isFrame]
theorem ke.make{k:Nat}{A:Around}(r:ke (k+1) A)(C:Addr)(us:List Value)(kw:List (Str×Value)):ke k (A.under (.builtin "type.__call__" ⟨.ref C::us,kw⟩)):=
 ⟨r.hd,by have:=r.dp;rw[Ex];omega,by have:=r.un;rw[Ey];omega⟩
theorem ke.depth{k:Nat}{A:Around}(r:ke k A):A.depth<recursionLimit:=by have:=r.dp;omega
theorem ke.units{k:Nat}{A:Around}(r:ke k A):A.units+64<cLine:=by have:=r.un;omega
def ND:TA:=λ_ H Q=>Q [] H
def QE(ta:TE)(tr:TA):TA:=λZ H Q=>ta Z H λx H1=>tr Z H1 λxs H2=>Q (x::xs) H2
section
variable{X:Cx}{e:Expr}{es:List Expr}{te:TE}{t:TA}{pos:Pos}
theorem d_:PA X [] ND:=λ_ _ _ _ H Q I h=>abw ⟨[],H,I,.nil,h⟩
theorem ak(ha:PE X e te)(hr:PA X es t)(hs:starEach (e::es) X.env=(false,eval e X.env)::starEach es X.env:=by rfl):PA X (e::es) (QE te t):=by
 intro pos b_ s Z H Q I h
 rw[hs]
 show wpAny _ _ (spliced ((false,eval e X.env)::backTo pos (starEach es X.env))) _ _ s
 refine abd (iX (ha b_ s Z H _ I h) λu s1 iG=>?_)
 obtain⟨x,H1,I1,r1,q1⟩:=iG
 exact iX (hr pos b_ s1 Z H1 _ I1 q1) λus s2 ⟨xs,H2,I2,r2,q2⟩=>⟨x::xs,H2,I2,.cons r1 r2,q2⟩
def UU(t:TA):TE:=λZ H Q=>t Z H λxs H1=>xs.length<=sizeLine/\∀p,H1 p=none->Q (.ref p) (upd H1 p (.tup xs))
def UW(t:TA):TE:=λZ H Q=>t Z H λxs H1=>xs.length<=sizeLine/\∀p,H1 p=none->Q (.ref p) (upd H1 p (.lst xs))
theorem kF{x1}(h:PA X es t):PE X (.Tuple es x1 pos) (UU t):=by
 intro b_ s Z H Q I hq
 refine wpAny_Tuple_spliced (iX (h pos b_ s Z H _ I hq) λus s1 iG=>?_)
 obtain⟨xs,H1,I1,r,z,q⟩:=iG
 refine⟨by rw[<-r.length];exact z,?_⟩
 have hf:H1 s1.heap.objs.size=none:=I1.iC.fresh (Vb _)
 refine⟨.ref s1.heap.objs.size,upd H1 s1.heap.objs.size (.tup xs),I1.laid (t':=s1.toks) (λb u e=>Ve _ e) (Vb _) ?_,rfl,q _ hf⟩
 exact⟨z,us,r,⟨_,YK _ rfl,rfl,_,rfl⟩⟩
theorem ji(h:PA X es t):PE X (.List es pos) (UW t):=by
 intro b_ s Z H Q I hq
 refine wpAny_List_spliced (iX (h pos b_ s Z H _ I hq) λus s1 iG=>?_)
 obtain⟨xs,H1,I1,r,z,q⟩:=iG
 refine⟨by rw[<-r.length];exact z,?_⟩
 have hf:H1 s1.heap.objs.size=none:=I1.iC.fresh (Vb _)
 refine⟨.ref s1.heap.objs.size,upd H1 s1.heap.objs.size (.lst xs),I1.laid (t':=s1.toks) (λb u e=>Ve _ e) (Vb _) ?_,rfl,q _ hf⟩
 exact⟨z,us,0,r,YK _ rfl⟩
end
abbrev Sp:=List V->Hp->VK->XK->Prop
abbrev FG:=List Env->Hp->Shared->XK->Qqq
structure CW(P:Program)(w:World)(K:Qqy)(mg:Qqx)(base:Heap)(A:Around)(outer:List Env)(s:Shared)(H:Hp):Prop where
 frames:A.frames=some outer
 mod:Mod K mg base
 bs:∀b o,base.get? b=some o->s.heap.get? b=some o/\H b=none
 Ko:base.objs.size<=s.heap.objs.size
 tW:s.heap.FunFrames base outer
 Kq:∀b∈tm outer,H b=none
 iC:qD P w H s.heap
 bare:AllBare s.gens
def CE(outer:List Env)(P:Program)(w:World)(H:Hp)(s:Shared)(Q:VK)(u:Value)(s':Shared):Prop:=
 ∃v H',s'.os=s.os/\AllBare s'.gens/\Un (tm outer) [] H H' s.heap s'.heap/\qD P w H' s'.heap/\RelV v u/\Q v H'
def CR(CX:FG)(outer:List Env)(P:Program)(w:World)(H:Hp)(s:Shared)(Q:VK)(E:XK)(r:Result)(s':Shared):Prop:=
 match r with
 | .ok (.ret u)=>CE outer P w H s Q u s'
 | .ok _=>False
 | .error e=>CX outer H s E e s'
structure iq(P:Program)(w:World)(K:Qqy)(mg:Qqx)(base:Heap)(CX:FG)(k:Nat)(f:Addr)(fd:FuncData)(ps:List Str)(sp:Sp):Prop where
 len:∀vs H Q E,sp vs H Q E->vs.length=ps.length
 run:∀(A:Around)(outer:List Env)(s:Shared)(H:Hp)(args:Args)(us:List Value)(vs:List V)(Q:VK)(E:XK),ke k A->CW P w K mg base A outer s H->BindsTo s fd args (ps.zip us)->Vals vs us->sp vs H Q E->
  codeAny (model P w) A (.call (.ref f) args) (CR CX outer P w H s Q E) s
theorem iq.mono{P:Program}{w:World}{K:Qqy}{mg:Qqx}{base:Heap}{CX:FG}{j k:Nat}{f:Addr}{fd:FuncData}{ps:List Str}{sp:Sp}(F:iq P w K mg base CX j f fd ps sp)(h:j<=k) :
 iq P w K mg base CX k f fd ps sp:=⟨F.len,λA outer s H args us vs Q E hr=>F.run A outer s H args us vs Q E (hr.mono h)⟩
theorem CW.make{P:Program}{w:World}{K:Qqy}{mg:Qqx}{base:Heap}{A:Around}{outer:List Env}{s:Shared}{H:Hp}(e:CW P w K mg base A outer s H)(C:Addr)(us:List Value)(kw:List (Str×Value)) :
 CW P w K mg base (A.under (.builtin "type.__call__" ⟨.ref C::us,kw⟩)) outer s H:=⟨by first|exact e.frames|(simpa[Around.under,Code.envs,Code.isFrame,pushEnvs] using e.frames),e.mod,e.bs,e.Ko,e.tW,e.Kq,e.iC,e.bare⟩
section
variable{X:Cx}{b_:Qqz}{Z:St}{H:Hp}{s s':Shared}
theorem Inv.QF(I:Inv X b_ Z H s):CW X.prog X.w X.K X.mg X.base X.A X.stack s H:=
 ⟨I.ok.frames,I.ok.mod,I.bs,aao I.ok.Ko I.sz,I.stack,I.Bl,I.iC,I.bare⟩
theorem Inv.after{Q:VK}{u:Value}(I:Inv X b_ Z H s)(h:CE X.stack X.prog X.w H s Q u s'):EP X b_ Z Q u s':=by
 obtain⟨v,H',os,bare,un,iC,r,q⟩:=h
 obtain⟨hh,g,d,t,RD⟩:=s'
 obtain rfl:RD=s.os:=os
 exact⟨v,H',I.call (h':=hh) (g':=g) (d':=d) (t':=t) (ch:=[]) un iC bare (λb z=>absurd z (by simp)),r,q⟩
end
def HV(sp:Sp)(yo:List V)(E:XK)(t:TA):TE:=λZ H Q=>t Z H λvs H1=>sp (vs++yo) H1 Q E
inductive mK(C:Addr)(m:Str)(x:V)(H:Hp)(R:Prop):Prop
 | mk (a dx:Addr) (fs:List (Str×V)) (_:x=.ref a) (_:H a=some (.ins C dx fs)) (_:fs.lookup m=none) (_:R)
def FH(C:Addr)(m:Str)(sp:Sp)(yo:List V)(E:XK)(ta:TE)(t:TA):TE:=λZ H Q=>ta Z H λx H1=>mK C m x H1 (t Z H1 λvs H2=>sp (x::(vs++yo)) H2 Q E)
def Mw(C:Addr)(sp:Sp)(yo:List V)(E:XK)(t:TA):TE:=λZ H Q=>t Z H λvs H1=>∀x dx,H1 x=none->H1 dx=none->dx≠x->
 sp (.ref x::(vs++yo)) (upd (upd H1 dx (.own x)) x (.ins C dx [])) (λv H2=>v=.jb/\Q (.ref x) H2) E
def Binds(K:Qqy)(fd:FuncData)(ps:List Str)(ds:List Value):Prop:=
 ∀(s:Shared)(us:List Value),K.In s.heap->(us++ds).length=ps.length->BindsTo s fd ⟨us,[]⟩ (ps.zip (us++ds))
theorem Binds.all{K:Qqy}{fd:FuncData}{ps:List Str}(h:∀us:List Value,us.length=ps.length->bindArgs fd ⟨us,[]⟩=pure (ps.zip us)):Binds K fd ps []:=λs us _ hl=>by
 rw[aaJ] at hl ⊢
 exact .of_eq (h us hl)
def Passes(CX:FG)(X:Cx)(E:XK):Prop:=∀(b_:Qqz)(Z:St)(H:Hp)(s:Shared)(e:Value)(s':Shared),Inv X b_ Z H s->CX X.stack H s E e s'->X.xe e s'
section
variable{X:Cx}{CX:FG}{k:Nat}{f C:Addr}{fd:FuncData}{ps:List Str}{sp:Sp}{yo:List V}{ds:List Value}{E:XK}{x m:Str}{p pos apos:Pos}{e o:Expr}{es:List Expr}{ta:TE}{t:TA}
theorem Ez{b_:Qqz}{Z:St}{H:Hp}{s:Shared}{Q:VK}{us:List Value}{vs:List V}(F:iq X.prog X.w X.K X.mg X.base CX k f fd ps sp)(hr:ke k X.A)(hb:Binds X.K fd ps ds)(hd:Vals yo ds)(hx:Passes CX X E)
  (I:Inv X b_ Z H s) (r:Vals vs us) (h:sp (vs++yo) H Q E):wpAny (model X.prog X.w) X.A (call (.ref f) us) (EP X b_ Z Q) X.xe s:=by
 have r2:Vals (vs++yo) (us++ds):=r.append hd
 have hl:(us++ds).length=ps.length:=by rw[<-r2.length];exact F.len _ _ _ _ h
 refine wpAny_call (acd (F.run X.A X.stack s H ⟨us,[]⟩ (us++ds) (vs++yo) Q E hr I.QF (hb s us I.wZ hl) r2 h) λr s' hq=>?_)
 cases r with
 | error e=>exact hx b_ Z H s e s' I hq
 | ok fl=>
  cases fl with
  | ret u=>exact I.after hq
  | next=>exact False.elim hq
  | brk=>exact False.elim hq
  | cont=>exact False.elim hq
theorem uE(F:iq X.prog X.w X.K X.mg X.base CX k f fd ps sp)(hr:ke k X.A)(hg:Gl X x)(hm:X.mg x=some (.ref f))(hk:W.keepIn X.K (.ref f)=true)(hb:Binds X.K fd ps ds)(hd:Vals yo ds)(hx:Passes CX X E)
  (ha:PA X (e::es) t) (Fo:(x ==("__debug__":Str))=false:=by decide) (he:starEach (e::es) X.env=(false,eval e X.env)::starEach es X.env:=by rfl) (qP:(backTo pos (starEach es X.env)).any (·.1)=false:=by rfl) :
  PE X (.Call (.Name x p) (e::es) [] pos) (HV sp yo E t):=by
 intro b_ s Z H Q I h
 refine wpAny_Call_Name_kw (uA I hg hm ?_ Fo)
 refine W.callWith_K (h₀:=X.base) I.ok.mod.Py hk (iX (ha pos b_ s Z H _ I h) λus s1 iG=>?_) he qP
 obtain⟨vs,H1,I1,r,q⟩:=iG
 refine⟨I1.wZ,?_⟩
 exact Ez F hr hb hd hx I1 r q
theorem FJ{pl:Sem Bool}(he:PE X o ta)(c:El X.K C)(hm:Meth X.K C m f)(F:iq X.prog X.w X.K X.mg X.base CX k f fd ps sp)(hr:ke k X.A)(hb:Binds X.K fd ps ds)(hd:Vals yo ds)(hx:Passes CX X E)(ha:PA X (e::es) t)
  (Fn:starEach (e::es) X.env=(false,eval e X.env)::starEach es X.env:=by rfl) (qP:(backTo pos (starEach es X.env)).any (·.1)=false:=by rfl)
  (ht:eval (.Call (.Attribute o m apos) (e::es) [] pos) X.env=(do
   let ov <-eval o X.env
   standAt apos.atName
   let (f,first) <-holding [ov] (getMethod ov m pl)
   callWith pos f first (backTo pos (starEach (e::es) X.env)) (backToKw pos (keywordEach [] X.env))):=by rfl) :
  PE X (.Call (.Attribute o m apos) (e::es) [] pos) (FH C m sp yo E ta t):=by
 intro b_ s Z H Q I h
 refine W.methodCall_KW (pl:=pl) (iX (he b_ s Z H _ I h) λu s1 iG=>?_) ht
 obtain⟨x,H1,I1,rx,a,dx,fs,ex,ea,l,q⟩:=iG
 subst ex
 obtain rfl:u=Value.ref a:=rx
 refine yC I1 ea c hm l ?_
 refine W.callWith_K (first:=[.ref a]) (h₀:=X.base) I.ok.mod.Py hm.kp (iX (ha pos b_ s1 Z H1 _ I1 q) λus s2 iG=>?_) Fn qP
 obtain⟨vs,H2,I2,r,q2⟩:=iG
 refine⟨I2.wZ,?_⟩
 exact Ez (us:=.ref a::us) (vs:=.ref a::vs) F hr hb hd hx I2 (.cons rfl r) q2
theorem uF{pl:Sem Bool}(he:PE X o ta)(c:El X.K C)(hm:Meth X.K C m f)(F:iq X.prog X.w X.K X.mg X.base CX k f fd ps sp)(hr:ke k X.A)(hb:Binds X.K fd ps ds)(hd:Vals yo ds)(hx:Passes CX X E)
  (ht:eval (.Call (.Attribute o m apos) [] [] pos) X.env=(do
   let ov <-eval o X.env
   standAt apos.atName
   let (f,first) <-holding [ov] (getMethod ov m pl)
   callWith pos f first (backTo pos (starEach [] X.env)) (backToKw pos (keywordEach [] X.env))):=by rfl) :
  PE X (.Call (.Attribute o m apos) [] [] pos) (FH C m sp yo E ta ND):=by
 intro b_ s Z H Q I h
 refine W.methodCall_KW (pl:=pl) (iX (he b_ s Z H _ I h) λu s1 iG=>?_) ht
 obtain⟨x,H1,I1,rx,a,dx,fs,ex,ea,l,q⟩:=iG
 subst ex
 obtain rfl:u=Value.ref a:=rx
 refine yC I1 ea c hm l ?_
 exact W.callWith_K0 (first:=[.ref a]) I1.wZ hm.kp (Ez (us:=[.ref a]) (vs:=[.ref a]) F hr hb hd hx I1 (.cons rfl .nil) q)
structure Mk(K:Qqy)(C f:Addr):Prop where
 makes:W.makesIn K C=true
 init:W.findIn K (.ref C) "__init__"=some (some (.ref f))
 fn:W.isFn K (.ref f)=true
 kp:W.keepIn K (.ref C)=true
theorem CY{b_:Qqz}{Z:St}{H:Hp}{s:Shared}{Q:VK}{us:List Value}{vs:List V}(M:Mk X.K C f)(F:iq X.prog X.w X.K X.mg X.base CX k f fd ps sp)(hr:ke (k+1) X.A)(hb:Binds X.K fd ps ds)(hd:Vals yo ds)
  (hx:Passes CX X E) (I:Inv X b_ Z H s) (r:Vals vs us)
  (h:∀x dx,H x=none->H dx=none->dx≠x->sp (.ref x::(vs++yo)) (upd (upd H dx (.own x)) x (.ins C dx [])) (λv H2=>v=.jb/\Q (.ref x) H2) E) :
  wpAny (model X.prog X.w) X.A (call (.ref C) us) (EP X b_ Z Q) X.xe s:=by
 have hq:=h (s.heap.objs.size+1) s.heap.objs.size (I.iC.fresh (ab2 _)) (I.iC.fresh (Vb _)) (aaD (abA _))
 have I2:=Inv.made (C:=C) I
 have r2:Vals (V.ref (s.heap.objs.size+1)::(vs++yo)) (Value.ref (s.heap.objs.size+1)::(us++ds)):=.cons rfl (r.append hd)
 have hl:(Value.ref (s.heap.objs.size+1)::us++ds).length=ps.length:=by
  have e:=r2.length
  rw[F.len _ _ _ _ hq] at e
  exact e.symm
 refine wpAny_call (HU (f:=f) I.wZ M.makes M.init (abN.mp M.fn) (acd (F.run _ X.stack _ _ ⟨Value.ref (s.heap.objs.size+1)::us,[]⟩ (Value.ref (s.heap.objs.size+1)::(us++ds)) _ _ E (hr.make C us [])
  (I2.QF.make C us []) (hb _ (Value.ref (s.heap.objs.size+1)::us) I2.wZ hl) r2 hq) λr s' RE=>?_))
 cases r with
 | error e=>exact hx b_ Z _ _ e s' I2 RE
 | ok fl=>
  cases fl with
  | ret u=>
   obtain⟨v,H',I3,rv,ev,q3⟩:=I2.after RE
   subst ev
   exact⟨rv,⟨V.ref (s.heap.objs.size+1),H',I3,rfl,q3⟩⟩
  | next=>exact False.elim RE
  | brk=>exact False.elim RE
  | cont=>exact False.elim RE
theorem Bo(M:Mk X.K C f)(F:iq X.prog X.w X.K X.mg X.base CX k f fd ps sp)(hr:ke (k+1) X.A)(hg:Gl X x)(hm:X.mg x=some (.ref C))(hb:Binds X.K fd ps ds)(hd:Vals yo ds)(hx:Passes CX X E)
  (ha:PA X (e::es) t) (Fo:(x ==("__debug__":Str))=false:=by decide) (he:starEach (e::es) X.env=(false,eval e X.env)::starEach es X.env:=by rfl) (qP:(backTo pos (starEach es X.env)).any (·.1)=false:=by rfl) :
  PE X (.Call (.Name x p) (e::es) [] pos) (Mw C sp yo E t):=by
 intro b_ s Z H Q I h
 refine wpAny_Call_Name_kw (uA I hg hm ?_ Fo)
 refine W.callWith_K (h₀:=X.base) I.ok.mod.Py M.kp (iX (ha pos b_ s Z H _ I h) λus s1 iG=>?_) he qP
 obtain⟨vs,H1,I1,r,q⟩:=iG
 refine⟨I1.wZ,?_⟩
 exact CY M F hr hb hd hx I1 r q
theorem HW(M:Mk X.K C f)(F:iq X.prog X.w X.K X.mg X.base CX k f fd ps sp)(hr:ke (k+1) X.A)(hg:Gl X x)(hm:X.mg x=some (.ref C))(hb:Binds X.K fd ps ds)(hd:Vals yo ds)(hx:Passes CX X E)
  (Fo:(x ==("__debug__":Str))=false:=by decide):PE X (.Call (.Name x p) [] [] pos) (Mw C sp yo E ND):=by
 intro b_ s Z H Q I h
 refine wpAny_Call_Name_kw (uA I hg hm ?_ Fo)
 exact W.callWith_K0 I.wZ M.kp (CY (us:=[]) M F hr hb hd hx I .nil h)
end
def PK(X:Cx)(YT:List Keyword)(t:TA):Prop:=
 ∀(pos:Pos)(b_:Qqz)(s:Shared)(Z:St)(H:Hp)(Q:List V->Hp->Prop),Inv X b_ Z H s->t Z H Q->wpAny (model X.prog X.w) X.A (evalAll ((backToKw pos (keywordEach YT X.env)).map (·.2))) (AP X b_ Z Q) X.xe s
section
variable{X:Cx}{CX:FG}{k:Nat}{f C:Addr}{fd:FuncData}{ps ks:List Str}{sp:Sp}{E:XK}{x m:Str}{p pos apos kpos:Pos}{e o:Expr}{es:List Expr}{YT:List Keyword}{te ta:TE}{t tk:TA}{nm:Option Str}
variable{g:List Value->List Value->List Value}{gV:List V->List V->List V}
end
structure gs(N P:List Str)(sc:Scope):Prop where
 kind:sc.kind=.function
 co:sc.isCoroutine=false
 gen:sc.isGenerator=false
 nd:N.Nodup
 pre:N.take P.length=P
 par:∀x∈P,sc.names.lookup x=some .local\/sc.names.lookup x=some .cell
 NF:∀y∈sc.names,y.2≠.free
theorem AF{kindOf:Str->Option NameKind}{x:Str}:∀{binds:List (Str×Value)} {m:Qqx},(∀v,(x,v)∉binds)->bindL kindOf binds m x=m x
 | [],_,_=>rfl
 | (n,v)::r,m,h=>by
  unfold bindL
  rw[AF λw hw=>h w (YE _ hw)]
  split
  ·have:x≠n:=by rintro rfl;exact h v aae
   simp[this]
  ·rfl
theorem AG{kindOf:Str->Option NameKind}{x:Str}:∀{binds:List (Str×Value)} {m:Qqx},(∀v,(x,v)∉binds)->bindC kindOf binds m x=m x
 | [],_,_=>rfl
 | (n,v)::r,m,h=>by
  unfold bindC
  rw[AG λw hw=>h w (YE _ hw)]
  split
  ·rfl
  ·have:x≠n:=by rintro rfl;exact h v aae
   simp[this]
theorem AH{kindOf:Str->Option NameKind}{x:Str}{v:Value}:∀{P:List Str} {vs:List Value} {i:Nat} {m:Qqx},P.Nodup->P[i]?=some x->vs[i]?=some v->kindOf x=some .local->
  bindL kindOf (P.zip vs) m x=some v
 | [],_,_,_,_,h,_,_=>by simp at h
 | _::_,[],_,_,_,_,h,_=>by simp at h
 | p::P,w::vs,0,m,nd,h1,h2,hk=>by
  simp at h1 h2;subst h1;subst h2
  show bindL kindOf ((p,w)::P.zip vs) m p=_
  unfold bindL
  rw[AF λv hv=>(aaY.mp nd).1 (List.of_mem_zip hv).1,aag hk]
  simp
 | p::P,w::vs,i+1,m,nd,h1,h2,hk=>by
  show bindL kindOf ((p,w)::P.zip vs) m x=_
  unfold bindL
  exact AH (i:=i) (aaY.mp nd).2 (by simpa using h1) (by simpa using h2) hk
theorem AI{kindOf:Str->Option NameKind}{x:Str}{v:Value}:∀{P:List Str} {vs:List Value} {i:Nat} {m:Qqx},P.Nodup->P[i]?=some x->vs[i]?=some v->kindOf x≠some .local->
  bindC kindOf (P.zip vs) m x=some v
 | [],_,_,_,_,h,_,_=>by simp at h
 | _::_,[],_,_,_,_,h,_=>by simp at h
 | p::P,w::vs,0,m,nd,h1,h2,hk=>by
  simp at h1 h2;subst h1;subst h2
  show bindC kindOf ((p,w)::P.zip vs) m p=_
  unfold bindC
  rw[AG λv hv=>(aaY.mp nd).1 (List.of_mem_zip hv).1,aac hk]
  simp
 | p::P,w::vs,i+1,m,nd,h1,h2,hk=>by
  show bindC kindOf ((p,w)::P.zip vs) m x=_
  unfold bindC
  exact AI (i:=i) (aaY.mp nd).2 (by simpa using h1) (by simpa using h2) hk
def start(N:List Str)(vs:List V):St:=vs.map some++List.replicate (N.length-vs.length) none
def vR(CX:FG)(P:Program)(w:World)(K:Qqy)(mg:Qqx)(base:Heap)(N:List Str)(qual:Str)(scope:Scope)(f:Addr)(cd:Value)(A:Around)(outer:List Env)(s:Shared)(H:Hp)(E:XK):Cx where
 prog:=P
 w:=w
 K:=K
 mg:=mg
 base:=base
 A:=A.deeper (envOfC qual scope s.heap.objs.size f cd)
 N:=N
 s₀:=s
 H₀:=H
 env:=envOfC qual scope s.heap.objs.size f cd
 outer:=outer
 stack:=envOfC qual scope s.heap.objs.size f cd::outer
 ex:=[]
 calm:=true
 fn:=λ_=>true
 pn:=[]
 xe:=λe s'=>wpAny (model P w) (A.deeper (envOfC qual scope s.heap.objs.size f cd)) (leaving (envOfC qual scope s.heap.objs.size f cd) e) (λ_ Fp=>CX outer H s E e Fp) (λe' Fp=>CX outer H s E e' Fp) s'
theorem CZ{sc:Scope}{n:Nat}{x:Str}(h:sc.names.lookup x=some .cell):∃c,(cellsFrom n sc.names []).lookup x=some c:=by
 have q:=W.cellsFrom_some sc.names n [] (.inl h)
 exact Option.isSome_iff_exists.mp q
theorem GF{CX:FG}{P:Program}{w:World}{K:Qqy}{mg:Qqx}{base:Heap}{N ps:List Str}{qual:Str}{scope:Scope}{f:Addr}{cd:Value}{A:Around}{outer:List Env}{s s1:Shared}{H:Hp}{E:XK}{us:List Value}{vs:List V}
  (S:gs N ps scope) (hd:A.handled=none) (e0:CW P w K mg base A outer s H) (hl:vs.length=ps.length) (r:Vals vs us)
  (x:InCallC s s.heap.objs.size (bindL (envOfC qual scope s.heap.objs.size f cd).kindOf (ps.zip us) λ_=>none) (cellsFrom (s.heap.objs.size+1) scope.names []) (bindC (envOfC qual scope s.heap.objs.size f cd).kindOf (ps.zip us) λ_=>none) s1) :
  Inv (vR CX P w K mg base N qual scope f cd A outer s H E) [] (start N vs) H s1:=by
 have qP:ps.length<=N.length:=by have:=aaQ List.length S.pre;rw[aaA] at this;omega
 obtain⟨h1,tk,rfl,hk⟩:=x.done
 have RF:∀b:Addr,b∉(vR CX P w K mg base N qual scope f cd A outer s H E).ex:=λb z=>absurd (show b∈([]:List Addr) from z) (by simp)
 refine⟨⟨e0.mod,S.kind,rfl,rfl,Vb _,λy z c h1 h2=>?_,λy hy=>?_,λy c _ h=>?_,λ_=>hd,Around.frames_deeper e0.frames,.inr ⟨rfl,rfl⟩,λb z=>absurd z (RF b),e0.bs,e0.Ko,λb _ _=>RF b,λb z=>absurd z (RF b),e0.tW,e0.Kq⟩,
  rfl,e0.bare,Un.kept hk,⟨_,x.toInCall.ns,λi y v h1 h2 h3=>?_⟩,λy c h=>⟨_,x.cell y c h⟩,e0.iC.fresh (Vb _),λy c h=>?_,λp hp=>absurd (show p∈([]:Qqz) from hp) (by simp),e0.iC.kept hk,?_⟩
 ·exact name_of_addr x.apart (abx h1) (abx h2)
 ·have hy:scope.names.lookup y=some .cell\/scope.names.lookup y=some .free:=hy
  rcases hy with hy|hy
  ·exact CZ hy
  ·exact absurd rfl (S.NF _ (abx hy))
 ·exact Nat.le_of_lt (x.above y c (abx h))
 ·have hi:i<vs.length:=by
   unfold start at h2
   by_cases hi:i<vs.length
   ·exact hi
   ·rw[abb (by simpa using hi)] at h2
    rw[List.getElem?_replicate] at h2
    split at h2<;>cases h2
  have ha:vs[i]?=some v:=by
   unfold start at h2
   rw[abS (by simpa using hi),YI] at h2
   cases e:vs[i]? with
   | none=>rw[e] at h2;cases h2
   | some a=>rw[e] at h2;cases h2;rfl
  obtain⟨u,hu,rv⟩:=r.get ha
  have hp:ps[i]?=some y:=by
   rw[<-S.pre,List.getElem?_take_of_lt (by omega)];exact h1
  have YU:ps.Nodup:=by rw[<-S.pre];exact S.nd.sublist (acj _ _)
  refine⟨u,rv,?_⟩
  rcases S.par y (Xj hp) with k|k
  ·exact .inl ⟨k,AH YU hp hu k⟩
  ·obtain⟨c,e⟩:=CZ (n:=s.heap.objs.size+1) k
   refine .inr ⟨.inl k,c,e,?_⟩
   have q:=x.cell y c e
   rw[AI YU hp hu (by show scope.names.lookup y≠_;rw[k];decide)] at q
   exact q
 ·exact e0.iC.fresh (Nat.le_of_lt (x.above y c (abx h)))
 ·unfold start
  show _=N.length
  rw[Vh,QU,List.length_replicate]
  omega
theorem Mx{CX:FG}{P:Program}{w:World}{K:Qqy}{mg:Qqx}{base:Heap}{k:Nat}{f:Addr}{name qual:Str}{params:Arguments}{body:List Stmt}{scope:Scope}{dV kV doc pm jv ct oc:Value}{an od:Option Addr}
  {HF:Array (Option Value)} {N ps:List Str} {sp:Sp} (lk:K.lookup f=some ⟨oc,od,.func (W.fnOf name qual params body scope dV kV doc pm an jv ct),HF⟩) (Bg:W.codeIn K jv qual=true) (S:gs N ps scope)
  (len:∀vs H Q E,sp vs H Q E->vs.length=ps.length)
  (vI:∀(A:Around)(outer:List Env)(s:Shared)(H:Hp)(vs:List V)(Q:VK)(E:XK),ke k (A.deeper (envOfC qual scope s.heap.objs.size f jv))->sp vs H Q E->
   ∃t,Ek (vR CX P w K mg base N qual scope f jv A outer s H E) body t/\t {nx:=λ_ H'=>Q .jb H',rt:=Q} (start N vs) H) :
  iq P w K mg base CX (k+1) f (W.fnOf name qual params body scope dV kV doc pm an jv ct) ps sp:=by
 refine⟨len,λA outer s H args us vs Q E hr e0 hb r Kw=>?_⟩
 have hl:=len _ _ _ _ Kw
 have KX:K.In s.heap:=e0.mod.Py.keeps λb o e=>(e0.bs b o e).1
 have lim:s.heap.NoLimit:=e0.mod.nolimit.keeps λb o e=>(e0.bs b o e).1
 have RG:∀y∈ps.zip us,scope.names.lookup y.1=some .local\/(scope.names.lookup y.1=some .cell/\((cellsFrom (s.heap.objs.size+1) scope.names []).lookup y.1).isSome=true):=λ⟨n,v⟩ hy=>by
  rcases S.par n (List.of_mem_zip hy).1 with q|q
  ·exact .inl q
  ·exact .inr ⟨q,W.cellsFrom_some _ _ _ (.inl q)⟩
 refine codeAny_call_function hr.depth (KX _ _ lk) rfl S.co S.gen rfl (W.codeRec_of KX Bg) (hb _ _ _ _ ?_)
 refine wpAny_newFunctionEnv_cells S.kind RG λenv he s1 x=>?_
 subst he
 refine⟨lim.keeps x.toInCall.keep,codeAny_func ?_⟩
 obtain⟨t,ht,hq⟩:=vI A outer s H vs Q E (hr.deeper _) Kw
 have I:Inv (vR CX P w K mg base N qual scope f jv A outer s H E) [] (start N vs) H s1:=GF S hr.hd e0 hl r x
 refine abu (ht [] s1 (start N vs) H _ I hq) (λfl s' hs=>?_) λe s' hs=>hs
 have fin:∀{Z':St} {H':Hp} {v:V} {u:Value},Inv (vR CX P w K mg base N qual scope f jv A outer s H E) [] Z' H' s'->RelV v u->Q v H'->CE outer P w H s Q u s':=
  λ{Z' H' v u} J rv q=>⟨v,H',J.os,J.bare,J.base,J.iC,rv,q⟩
 cases fl with
 | ret u=>
  obtain⟨v,Z',H',J,rv,q⟩:=hs
  exact fin J rv q
 | next=>
  obtain⟨Z',H',J,q⟩:=hs
  exact fin (v:=V.jb) (u:=Value.none) J rfl q
 | brk=>
  obtain⟨_,_,_,q⟩:=hs
  exact False.elim q
 | cont=>
  obtain⟨_,_,_,q⟩:=hs
  exact False.elim q
section
variable{X:Cx}{x:Str}{p pos:Pos}{e:Expr}{es:List Expr}{t:TA}{id T:String}{r:List V->Hp->VK->Prop}
def YA(r:List V->Hp->VK->Prop)(t:TA):TE:=λZ H Q=>t Z H λvs H1=>r vs H1 Q
theorem hG(hc:qE X (.builtin id) r)(hg:Gl X x)(hm:X.mg x=none)(hv:bootBuiltins x=some (.builtin id))(ha:PA X (e::es) t)(hn:x≠"__name__":=by decide)(Fo:(x ==("__debug__":Str))=false:=by decide)
  (he:starEach (e::es) X.env=(false,eval e X.env)::starEach es X.env:=by rfl) (qP:(backTo pos (starEach es X.env)).any (·.1)=false:=by rfl):PE X (.Call (.Name x p) (e::es) [] pos) (YA r t):=by
 intro b_ s Z H Q I h
 refine wpAny_Call_Name_kw (lT I hg hm hv ?_ hn Fo)
 exact PyProof.Rows.callWith_builtin1 (iX (ha pos b_ s Z H _ I h) λus s1 ⟨vs,H1,I1,r1,q1⟩=>hc b_ s1 Z H1 vs us Q I1 r1 q1) he qP
theorem lV(hc:qE X (.type T) r)(hg:Gl X x)(hm:X.mg x=none)(hv:bootBuiltins x=some (.type T))(ha:PA X (e::es) t)(hn:x≠"__name__":=by decide)(Fo:(x ==("__debug__":Str))=false:=by decide)
  (he:starEach (e::es) X.env=(false,eval e X.env)::starEach es X.env:=by rfl) (qP:(backTo pos (starEach es X.env)).any (·.1)=false:=by rfl):PE X (.Call (.Name x p) (e::es) [] pos) (YA r t):=by
 intro b_ s Z H Q I h
 refine wpAny_Call_Name_kw (lT I hg hm hv ?_ hn Fo)
 exact aaN (iX (ha pos b_ s Z H _ I h) λus s1 ⟨vs,H1,I1,r1,q1⟩=>hc b_ s1 Z H1 vs us Q I1 r1 q1) he qP
end
end L2
namespace HT
open PySem PyProof.Rows
section
open PySem.SeqAt
open PySem.AutoSeq1 (wpAny_loadPart')
open PySem.MeetsSeq PySem.MeetsSeq2 PySem.MeetsSeq3
end
section
variable{prog:Program}{w:World}{A:Around}{E:Qqq}{s:Shared}
noncomputable def C0(n d:Nat):Option Int->Nat
 | none=>d
 | some v=>if v<0 then(v+(n:Int)).toNat else min v.toNat n
theorem C1(n d:Nat):C0 n d none=d:=rfl
theorem FK(n d k:Nat):C0 n d (some (k:Int))=min k n:=by
 show(if(k:Int)<0 then((k:Int)+(n:Int)).toNat else min (k:Int).toNat n)=min k n
 rw[aac (by omega),abX]
end
end HT
namespace L2
open PySem PySem.Spec PyProof.Rows
abbrev TO:=St->Hp->(Option Int->Hp->Prop)->Prop
def PO(X:Cx)(e:Option Expr)(t:TO):Prop:=
 ∀(b_:Qqz)(s:Shared)(Z:St)(H:Hp)(Q:Option Int->Hp->Prop),Inv X b_ Z H s->t Z H Q->
  wpAny (model X.prog X.w) X.A (evalPart e X.env) (λu s'=>∃o H',Inv X b_ Z H' s'/\IsPart u o/\Q o H') X.xe s
def KP:TO:=λ_ H Q=>Q none H
def QG(t:TE):TO:=λZ H Q=>t Z H λx H1=>∃i,x=.int i/\Q (some i) H1
section
variable{X:Cx}{e:Expr}{te:TE}{lo hi:Option Expr}{tl th:TO}{pos p2:Pos}
theorem nv:PO X none KP:=by
 intro b_ s Z H Q I h
 rw[evalPart_none]
 exact R8 ⟨none,H,I,.none,h⟩
theorem nz(h:PE X e te):PO X (some e) (QG te):=by
 intro b_ s Z H Q I hw
 rw[evalPart_some]
 refine iX (h b_ s Z H _ I hw) λu s1 iG=>?_
 obtain⟨x,H1,I1,r1,q1⟩:=iG
 obtain⟨i,rfl,q⟩:=q1
 obtain⟨t,rfl⟩:=r1
 exact⟨some i,H1,I1,.int i t,q⟩
def YB(X:Cx)(r:V->Option Int->Option Int->Hp->VK->Prop):Prop:=
 ∀(b_:Qqz)(s:Shared)(Z:St)(H:Hp)(x:V)(v vl vu:Value)(lo hi:Option Int)(sl:Addr)(Q:VK),Inv X b_ Z H s->RelV x v->s.heap.IsSliceOf sl vl vu .none->IsPart vl lo->IsPart vu hi->r x lo hi H Q->
  ∃T id,typeLookup (.type T) "__getitem__"=pure (some (.builtin id))/\s.TypeIs v T/\wpAny (model X.prog X.w) X.A (getItem v (.ref sl)) (EP X b_ Z Q) X.xe s
def tSl(r:V->Option Int->Option Int->Hp->VK->Prop)(te:TE)(tl th:TO):TE:=λZ H Q=>te Z H λx H1=>tl Z H1 λl H2=>th Z H2 λu H3=>r x l u H3 Q
theorem lq{r:V->Option Int->Option Int->Hp->VK->Prop}(hr:YB X r)(he:PE X e te)(hl:PO X lo tl)(hu:PO X hi th):PE X (.Subscript e (.Slice lo hi none p2) pos) (tSl r te tl th):=by
 intro b_ s Z H Q I h
 refine Subscript_ (iX (he b_ s Z H _ I h) λv s1 iG=>?_)
 obtain⟨x,H1,I1,r1,q1⟩:=iG
 refine wpAny_Slice (iX (hl b_ s1 Z H1 _ I1 q1) λvl s2 iG=>?_)
 obtain⟨l,H2,I2,pl,q2⟩:=iG
 refine iX (hu b_ s2 Z H2 _ I2 q2) λvu s3 Hx=>?_
 obtain⟨u,H3,I3,pu,q3⟩:=Hx
 rw[evalPart_none]
 refine R8 ?_
 have I4:Inv X b_ Z H3 {s3 with heap:=s3.heap.push {cls:=.type "slice",data:=.fields #[vl,vu,.none]}}:=I3.kept (t':=s3.toks) λb ob q=>Ve _ q
 obtain⟨T,id,hT,ht,hg⟩:=hr b_ {s3 with heap:=s3.heap.push {cls:=.type "slice",data:=.fields #[vl,vu,.none]}} Z H3 x v vl vu l u s3.heap.objs.size Q I4 r1 (Heap.IsSliceOf.new ..) pl pu q3
 show wpAny (model X.prog X.w) X.A (subscriptTail e (.Slice lo hi none p2) v (.ref s3.heap.objs.size)) (EP X b_ Z Q) X.xe {s3 with heap:=s3.heap.push {cls:=.type "slice",data:=.fields #[vl,vu,.none]}}
 exact tail_any (ops:=[.ref s3.heap.objs.size,v]) ht hT hg (by with_unfolding_all rfl)
noncomputable def uG(xs:List V)(lo hi:Option Int):List V:=(xs.drop (HT.C0 xs.length 0 lo)).take (HT.C0 xs.length xs.length hi-HT.C0 xs.length 0 lo)
theorem C2(xs:List V)(lo hi:Option Int):(uG xs lo hi).length<=xs.length:=by
 unfold uG
 rw[aaA,List.length_drop]
 omega
end
noncomputable def HX(n:Nat)(i:Int):Option Nat:=if 0<=i then(if i<n then some i.toNat else none) else if -(n:Int)<=i then some (i+n).toNat else none
noncomputable def GG{Z:Type}(xs:List Z)(i:Int):Option Z:=(HX xs.length i).bind λj=>xs[j]?
theorem FL{n:Nat}{i:Int}{j:Nat}(h:HX n i=some j):seqIndex? i n=some j/\j<n/\-(n:Int)<=i/\i<n:=by
 unfold HX at h
 by_cases h0:0<=i
 ·rw[aag h0] at h
  by_cases h1:i<n
  ·rw[aag h1] at h
   have e:i.toNat=j:=aal h
   exact⟨by rw[seqIndex_of h0 h1,e],by omega,by omega,h1⟩
  ·rw[aac h1] at h;cases h
 ·rw[aac h0] at h
  by_cases h1:-(n:Int)<=i
  ·rw[aag h1] at h
   have e:(i+n).toNat=j:=aal h
   exact⟨by rw[seqIndex_neg (by omega) h1,e],by omega,h1,by omega⟩
  ·rw[aac h1] at h;cases h
theorem Bp{Z:Type}{xs:List Z}{i:Int}{v:Z}(h:GG xs i=some v):∃j,seqIndex? i xs.length=some j/\xs[j]?=some v/\j<xs.length/\-(xs.length:Int)<=i/\i<xs.length:=by
 unfold GG at h
 cases e:HX xs.length i with
 | none=>rw[e] at h;cases h
 | some j=>
  rw[e] at h
  obtain⟨h1,h2,h3,h4⟩:=FL e
  exact⟨j,h1,h,h2,h3,h4⟩
theorem KQ{Z:Type}{xs:List Z}{j:Nat}{v:Z}(h:xs[j]?=some v):GG xs (j:Int)=some v:=by
 have hj:j<xs.length:=(List.getElem?_eq_some_iff.mp h).1
 have e:HX xs.length (j:Int)=some j:=by
  unfold HX
  rw[aag (by omega),aag (by omega)];simp
 unfold GG;rw[e];exact h
theorem HY{Z:Type}(xs:List Z)(v:Z):GG (xs++[v]) (-1)=some v:=by
 have hl:(xs++[v]).length=xs.length+1:=by simp
 have e:HX (xs++[v]).length (-1)=some xs.length:=by
  unfold HX
  rw[hl,aac (by decide),aag (by omega)]
  congr 1
  omega
 unfold GG
 rw[e]
 show(xs++[v])[xs.length]?=some v
 simp
def FN(b:Expr):Prop:=∀o i,subscripted b false o i=operate [o,i] (getItem o i)
def Tv(X:Cx)(r:R2):Prop:=
 ∀(value slice:Expr)(b_:Qqz)(s:Shared)(Z:St)(H:Hp)(x y:V)(v u:Value)(Q:VK),Inv X b_ Z H s->RelV x v->RelV y u->r x y H Q->
  subscripted slice false v u=operate [v,u] (getItem v u)->wpAny (model X.prog X.w) X.A (subscriptTail value slice v u) (EP X b_ Z Q) X.xe s
def UX(X:Cx)(id:String)(r:V->List V->Hp->VK->Prop):Prop:=
 ∀(b_:Qqz)(s:Shared)(Z:St)(H:Hp)(x:V)(xs:List V)(v:Value)(us:List Value)(Q:VK),Inv X b_ Z H s->RelV x v->Vals xs us->r x xs H Q->
  wpAny (model X.prog X.w) X.A (call (.builtin id) (v::us)) (EP X b_ Z Q) X.xe s
section
variable{X:Cx}{a b:Expr}{ta tb:TE}{pos:Pos}
theorem jA{r:R2}(hr:Tv X r)(ha:PE X a ta)(hb:PE X b tb)(hs:FN b):PE X (.Subscript a b pos) (QA r ta tb):=by
 intro b_ s Z H Q I h
 exact Subscript_ (Nw ha hb I h λv u s2 x y H2 I2 rx ry q=>hr a b b_ s2 Z H2 x y v u Q I2 rx ry q (hs _ _))
inductive QH(K:Qqy)(x:V)(y:V)(H:Hp)(Q:VK):Prop
 | mk (p xs i v) (_:x=.ref p) (_:y=.int i) (_:h_ K H p xs) (_:GG xs i=some v) (_:Q v H)
inductive UY(K:Qqy)(x:V)(y:V)(H:Hp)(Q:VK):Prop
 | mk (p xs i v) (_:x=.ref p) (_:y=.int i) (_:qT K H p xs) (_:GG xs i=some v) (_:Q v H)
noncomputable def UZ:R2:=λx y H Q=>∃z i c,x=.str z/\y=.int i/\z.length<=sizeLine/\GG z.cps.toList i=some c/\Q (.str ⟨#[c]⟩) H
theorem kx:Tv X (QH X.K):=by
 intro value slice b_ s Z H x y v u Q I rx ry h hs
 obtain⟨p,xs,i,z,rfl,rfl,hq,he,q⟩:=h
 cases rx
 obtain⟨t,rfl⟩:=ry
 obtain⟨ib,r,pl,hz⟩:=I.list hq
 obtain⟨j,h1,h2,h3,h4,h5⟩:=Bp he
 obtain⟨w,ew,Eb⟩:=r.get h2
 have hl:=r.length
 have hn:=tZ
 have fin:EP X b_ Z Q w s:=⟨z,H,I,Eb,q⟩
 by_cases h0:0<=i
 ·have hj:i.toNat=j:=by
   rw[seqIndex_of h0 h5] at h1
   exact aal h1
  exact item_listR pl.isList h0 (by omega) (by rw[hj];simpa using ew) fin hs
 ·have hj:(i+(ib.toArray.size:Int)).toNat=j:=by
   rw[seqIndex_neg (by omega) h4] at h1
   rw[aaa,<-hl]
   exact aal h1
  exact subscriptTail_builtinR (x:=w) pl.isList.typeIs slot_list_getitem.lookup
   (wpAny_getItem_list_neg (Q:=λr s'=>r=w/\EP X b_ Z Q r s') pl.isList (by omega) (by rw[aaa]<;>omega) (by omega) (by rw[hj];simpa using ew) ⟨rfl,fin⟩) hs
theorem lW:Tv X (UY X.K):=by
 intro value slice b_ s Z H x y v u Q I rx ry h hs
 obtain⟨p,xs,i,z,rfl,rfl,hq,he,q⟩:=h
 cases rx
 obtain⟨t,rfl⟩:=ry
 obtain⟨ib,r,pl,hz⟩:=I.tuple hq
 obtain⟨j,h1,h2,h3,h4,h5⟩:=Bp he
 obtain⟨w,ew,Eb⟩:=r.get h2
 have hl:=r.length
 have hn:=tZ
 have fin:EP X b_ Z Q w s:=⟨z,H,I,Eb,q⟩
 exact subscriptTail_builtinR (x:=w) pl.typeIs slot_tuple_getitem.lookup
  (getItem_tuple (j:=j) (Q:=λr s'=>r=w/\EP X b_ Z Q r s') pl (by omega) (by omega) (by rw[aaa,<-hl];exact h1) (by simpa using ew) ⟨rfl,fin⟩) hs
theorem EA:Tv X UZ:=by
 intro value slice b_ s Z H x y v u Q I rx ry h hs
 obtain⟨z,i,c,rfl,rfl,hz,he,q⟩:=h
 obtain⟨t,rfl⟩:=rx
 obtain⟨t',rfl⟩:=ry
 obtain⟨j,h1,h2,h3,h4,h5⟩:=Bp he
 have hl:z.cps.toList.length=z.length:=by simp[Str.length]
 rw[hl] at h1 h4 h5
 have hn:=tZ
 exact tail_any (typeIs_str s z t) slot_str_getitem.lookup (getItem_str (c:=c) (by
  have e1:decide (i < -(2 ^ 63:Int))=false:=aai (by omega)
  have e2:decide (i>=2 ^ 63)=false:=aai (by omega)
  rw[e1,e2,Bool.or_false]) (by rw[h1];simpa using h2) ⟨.str ⟨#[c]⟩,H,I.tok _,⟨_,rfl⟩,q⟩) hs
theorem EB(ib:List Value)(n j:Nat)(u:Value):Obj.mapSeq (·.setIfInBounds j u) {cls:=.type "list",data:=.seq ib.toArray n}={cls:=.type "list",data:=.seq (ib.set j u).toArray n}:=by
 simp[Obj.mapSeq]
theorem Inv.lst{b_:Qqz}{Z:St}{H:Hp}{s:Shared}{p:Addr}{xs:List V}(I:Inv X b_ Z H s)(h:H p=some (.lst xs)) :
  ∃(ib:List Value)(n:Nat),Vals xs ib/\s.heap.get? p=some {cls:=.type "list",data:=.seq ib.toArray n}/\xs.length<=sizeLine:=by
 obtain⟨z,ib,n,r,e⟩:=I.iC p _ h
 exact⟨ib,n,r,e,z⟩
theorem Inv.NG{b_:Qqz}{Z:St}{H:Hp}{s:Shared}{p:Addr}{xs ys:List V}{ib its':List Value}{n n':Nat}{f:Obj->Obj}(I:Inv X b_ Z H s)(h:H p=some (.lst xs))
  (ho:s.heap.get? p=some {cls:=.type "list",data:=.seq ib.toArray n}) (hf:f {cls:=.type "list",data:=.seq ib.toArray n}={cls:=.type "list",data:=.seq its'.toArray n'}) (r:Vals ys its') (hz:ys.length<=sizeLine) (t:Nat) :
  Inv X b_ Z (upd H p (.lst ys)) {s with heap:=s.heap.update p f,toks:=t}:=by
 have e:(s.heap.update p f).get? p=some {cls:=.type "list",data:=.seq its'.toArray n'}:=by
  rw[aaS f ho (by rw[hf]<;>rfl),hf]
 refine I.write (x:=p) (e:=p) (by rw[h];trivial) (.inl rfl) (λb u hb q=>(abf _ _ (abE hb)).trans q) ⟨_,e⟩ ?_
 exact⟨hz,its',n',r,e⟩
inductive QI(o:V)(i:V)(v:V)(H:Hp)(Q:Hp->Prop):Prop
 | mk (p xs k j) (_:o=.ref p) (_:i=.int k) (_:H p=some (.lst xs)) (_:HX xs.length k=some j) (_:Q (upd H p (.lst (xs.set j v))))
theorem set_list:Qv X QI:=by
 intro b_ s Z H o i v ov iv u Q I ro ri rv h
 obtain⟨p,xs,k,j,rfl,rfl,hp,hj,q⟩:=h
 cases ro
 obtain⟨t,rfl⟩:=ri
 obtain⟨ib,n,r,ho,hz⟩:=I.lst hp
 obtain⟨h1,h2,h3,h4⟩:=FL hj
 have hl:=r.length
 have hn:=tZ
 have I':Inv X b_ Z (upd H p (.lst (xs.set j v))) {s with heap:=s.heap.update p (Obj.mapSeq (·.setIfInBounds j u))}:=
  I.NG hp ho (EB ib n j u) (r.set rv j) (by rw[ace];exact hz) s.toks
 by_cases h0:0<=k
 ·have hk:k.toNat=j:=by
   rw[seqIndex_of h0 h4] at h1
   exact aal h1
  exact W.ki_setAt ho h0 (by omega) (by rw[aaa,<-hl];exact h4) (by rw[hk];exact⟨_,I',q⟩)
 ·have hk:(k+(ib.toArray.size:Int)).toNat=j:=by
   rw[seqIndex_neg (by omega) h3] at h1
   rw[aaa,<-hl]
   exact aal h1
  exact W.ki_setBack ho (by omega) (by rw[aaa,<-hl];exact h3) (by omega) (by rw[hk];exact⟨_,I',q⟩)
theorem Bq(lo hi:Option Int)(n:Nat):(sliceBounds lo hi none n).1=((HT.C0 n 0 lo:Nat):Int)/\(sliceBounds lo hi none n).2.1=((HT.C0 n n hi:Nat):Int)/\(sliceBounds lo hi none n).2.2=1:=by
 refine⟨?_,?_,rfl⟩
 ·cases lo with
  | none=>simp[sliceBounds,HT.C0]
  | some i=>
   simp only [sliceBounds,HT.C0,Option.getD_none,show(1:Int)>0 by decide,if_true]
   by_cases h:i<0
   ·simp only [h,if_true]<;>omega
   ·simp only [h,ab3]<;>omega
 ·cases hi with
  | none=>simp[sliceBounds,HT.C0]
  | some i=>
   simp only [sliceBounds,HT.C0,Option.getD_none,show(1:Int)>0 by decide,if_true]
   by_cases h:i<0
   ·simp only [h,if_true]<;>omega
   ·simp only [h,ab3]<;>omega
theorem z_(ib:List Value)(lo hi:Option Int):slicePick ib.toArray lo hi none=((ib.drop (HT.C0 ib.length 0 lo)).take (HT.C0 ib.length ib.length hi-HT.C0 ib.length 0 lo)).toArray:=by
 obtain⟨h1,h2,h3⟩:=Bq lo hi ib.toArray.size
 unfold slicePick
 rw[h1,h2,h3]
 simp only [sliceRange_one,pick_run,aaa]<;>rfl
noncomputable def U0(K:Qqy):V->Option Int->Option Int->Hp->VK->Prop:=λx lo hi H Q=>∃a xs,x=.ref a/\h_ K H a xs/\∀p,H p=none->Q (.ref p) (upd H p (.lst (uG xs lo hi)))
theorem nA:YB X (U0 X.K):=by
 intro b_ s Z H x v vl vu lo hi sl Q I rx hs pl pu h
 obtain⟨a,xs,rfl,hx,q⟩:=h
 cases rx
 obtain⟨ib,r,ht,hz⟩:=I.list hx
 have hlen:=r.length
 refine⟨"list",_,slot_list_getitem.lookup,ht.isList.typeIs,?_⟩
 refine wpAny_getItem_list_slice ht.isList hs pl pu .none (by simp) ?_ (by rw[aaa]<;>omega)
 rw[z_,<-hlen]
 refine⟨.ref s.heap.objs.size,_,I.laid (t':=s.toks) (o:=.lst (uG xs lo hi)) (λb ob q=>Ve _ q) (Vb _) ?_,rfl,q _ (I.iC.fresh (Vb _))⟩
 exact⟨aao (C2 xs lo hi) hz,_,0,(r.drop (HT.C0 xs.length 0 lo)).take (HT.C0 xs.length xs.length hi-HT.C0 xs.length 0 lo),YK _ rfl⟩
def qW:V->Bool
 | .jb=>true
 | .bl _=>true
 | .int _=>true
 | .str _=>true
 | _=>false
noncomputable def PD:V->V->Bool
 | .jb,.jb=>true
 | .bl a,.bl b=>a ==b
 | .bl a,.int b=>(if a then 1 else 0) ==b
 | .int a,.bl b=>a ==(if b then 1 else 0)
 | .int a,.int b=>a ==b
 | .str a,.str b=>a ==b
 | _,_=>false
theorem NH{A:Around}{s:Shared}{y x:V}{u v:Value}(ry:RelV y u)(rx:RelV x v)(fy:qW y=true)(fx:qW x=true):SeqAt.EqAt A s u v (PD y x):=by
 cases y with
 | jb=>
  cases ry
  cases x with
  | jb=>cases rx;exact SeqAt.EqAt.same _
  | bl b=>cases rx;exact SeqAt.EqAt.none_bool b
  | int b=>obtain⟨t,rfl⟩:=rx;exact SeqAt.EqAt.none_int b t
  | str b=>obtain⟨t,rfl⟩:=rx;exact SeqAt.EqAt.none_str b t
  | _=>exact absurd (show false=true from fx) aab
 | bl a=>
  cases ry
  cases x with
  | jb=>cases rx;exact SeqAt.EqAt.bool_none a
  | bl b=>cases rx;exact SeqAt.EqAt.bool_bool a b
  | int b=>obtain⟨t,rfl⟩:=rx;exact SeqAt.EqAt.bool_int a b t
  | str b=>obtain⟨t,rfl⟩:=rx;exact SeqAt.EqAt.bool_str a b t
  | _=>exact absurd (show false=true from fx) aab
 | int a=>
  obtain⟨t',rfl⟩:=ry
  cases x with
  | jb=>cases rx;exact SeqAt.EqAt.int_none a t'
  | bl b=>cases rx;exact SeqAt.EqAt.int_bool a t' b
  | int b=>obtain⟨t,rfl⟩:=rx;exact SeqAt.EqAt.int_int a t' b t
  | str b=>obtain⟨t,rfl⟩:=rx;exact SeqAt.EqAt.int_str a t' b t
  | _=>exact absurd (show false=true from fx) aab
 | str a=>
  obtain⟨t',rfl⟩:=ry
  cases x with
  | jb=>cases rx;exact SeqAt.EqAt.str_none a t'
  | bl b=>cases rx;exact SeqAt.EqAt.str_bool a t' b
  | int b=>obtain⟨t,rfl⟩:=rx;exact SeqAt.EqAt.str_int a t' b t
  | str b=>obtain⟨t,rfl⟩:=rx;exact SeqAt.EqAt.str_str a t' b t
  | _=>exact absurd (show false=true from fx) aab
 | _=>exact absurd (show false=true from fy) aab
theorem gq:qE X (.builtin "len") (λxs H Q=>∃p ys,xs=[.ref p]/\(h_ X.K H p ys\/qT X.K H p ys)/\Q (.int ys.length) H):=by
 intro b_ s Z H xs us Q I r h
 obtain⟨p,ys,rfl,hq,q⟩:=h
 obtain⟨u,rfl,rx⟩:=vals1 r
 cases rx
 have hn:=tZ
 rcases hq with hq|hq
 ·obtain⟨ib,r',pl,hz⟩:=I.list hq
  have hlen:=r'.length
  exact Calls.call_len_list pl.isList (by simp only [aaa]<;>omega) ⟨.int ys.length,H,I.tok _,⟨s.toks+1,by rw[aaa,hlen]⟩,q⟩
 ·obtain⟨ib,r',pl,hz⟩:=I.tuple hq
  have hlen:=r'.length
  exact len_tuple pl (by simp only [aaa]<;>omega) ⟨.int ys.length,H,I.tok _,⟨s.toks+1,by rw[aaa,hlen]⟩,q⟩
theorem uH:qE X (.builtin "len") (λxs H Q=>∃z,xs=[.str z]/\z.length<=sizeLine/\Q (.int z.length) H):=by
 intro b_ s Z H xs us Q I r h
 obtain⟨z,rfl,hz,q⟩:=h
 obtain⟨u,rfl,t,rfl⟩:=vals1 r
 have hn:=tZ
 exact len_str (by omega) ⟨.int z.length,H,I.tok _,⟨_,rfl⟩,q⟩
theorem uI:qE X (.type "list") (λxs H Q=>∃p ys,xs=[.ref p]/\(h_ X.K H p ys\/qT X.K H p ys)/\∀l,H l=none->Q (.ref l) (upd H l (.lst ys))):=by
 intro b_ s Z H xs us Q I r h
 obtain⟨p,ys,rfl,hq,q⟩:=h
 obtain⟨u,rfl,rx⟩:=vals1 r
 cases rx
 have fin:∀(ib:List Value),Vals ys ib->ys.length<=sizeLine->∀(h':Heap)(c':Nat),(∀b o',s.heap.get? b=some o'->h'.get? b=some o')->
   h'.get? s.heap.objs.size=some {cls:=.type "list",dict:=none,data:=.seq ib.toArray c',slots:=#[]}->EP X b_ Z Q (.ref s.heap.objs.size) {s with heap:=h'}:=λib r' hz h' c' kp e=>
  ⟨.ref s.heap.objs.size,_,I.laid (t':=s.toks) kp (Vb _) (show iR X.prog X.w _ h' _ (.lst ys) from ⟨hz,ib,c',r',e⟩),rfl,q _ (I.iC.fresh (Vb _))⟩
 rcases hq with hq|hq
 ·obtain⟨ib,r',pl,hz⟩:=I.list hq
  have hlen:=r'.length
  obtain⟨o,ho,hc,n,hd⟩:=pl.isList
  exact call_list_seq p (.inl rfl) ho hc hd (λh' c' kp e=>fin ib r' hz h' c' kp e) (by simp only [aaa]<;>omega)
 ·obtain⟨ib,r',pl,hz⟩:=I.tuple hq
  have hlen:=r'.length
  obtain⟨o,ho,hc,n,hd⟩:=pl
  exact call_list_seq p (.inr rfl) ho hc hd (λh' c' kp e=>fin ib r' hz h' c' kp e) (by simp only [aaa]<;>omega)
def U1(K:Qqy)(T:String)(x:V)(H:Hp):Prop:=match x with
 | .str _=>T="str"
 | .int _=>T="int"
 | .ref p=>(T="list"/\∃xs,h_ K H p xs)\/(T="tuple"/\∃o,K.lookup p=some o/\o.cls=.type "tuple"/\o.dict=none)\/
  (T="dict"/\((∃kvs,H p=some (.dK kvs))\/∃kvs,H p=some (.dT kvs)))\/(T="set"/\∃S n,H p=some (.set S n))
 | _=>False
theorem HZ{b_:Qqz}{Z:St}{H:Hp}{s:Shared}{T:String}{x:V}{v:Value}(I:Inv X b_ Z H s)(r:RelV x v)(ty:U1 X.K T x H) :
  s.TypeIs v T/\∀a,v=.ref a->∃ob,s.heap.get? a=some ob/\ob.dict=none:=by
 cases x with
 | str z=>
  obtain⟨t,rfl⟩:=r
  cases (show T="str" from ty)
  exact⟨typeIs_str s z t,λ_ e=>nomatch e⟩
 | int i=>
  obtain⟨t,rfl⟩:=r
  cases (show T="int" from ty)
  exact⟨typeIs_int s i t,λ_ e=>nomatch e⟩
 | ref p=>
  cases r
  rcases ty with⟨rfl,xs,hq⟩|⟨rfl,o,hk,hc,hd⟩|⟨rfl,hk⟩|⟨rfl,S,n,hk⟩
  ·obtain⟨ib,_,pl,_⟩:=I.list hq
   refine⟨pl.isList.typeIs,λa e=>?_⟩
   cases e
   obtain⟨o,n,e,c,hd,_⟩:=pl
   exact⟨o,e,hd⟩
  ·refine⟨⟨o,I.wZ p o hk,hc⟩,λa e=>?_⟩
   cases e
   exact⟨o,I.wZ _ o hk,hd⟩
  ·have z:∃o,s.heap.get? p=some o/\o.ExactDict:=by
    rcases hk with⟨kvs,hk⟩|⟨kvs,hk⟩
    ·obtain⟨_,_,_,_,o,_,_,e,ex,_⟩:=I.iC p _ hk
     exact⟨o,e,ex⟩
    ·obtain⟨_,_,_,_,o,_,_,e,ex,_⟩:=I.iC p _ hk
     exact⟨o,e,ex⟩
   obtain⟨o,e,ex⟩:=z
   refine⟨⟨o,e,ex.1⟩,λa e2=>?_⟩
   cases e2
   exact⟨o,e,ex.2.1⟩
  ·obtain⟨o,_,_,_,e,ex,_⟩:=I.iC p _ hk
   refine⟨⟨o,e,ex.1⟩,λa e2=>?_⟩
   cases e2
   exact⟨o,e,ex.2.1⟩
 | _=>exact False.elim ty
def U2(K:Qqy)(T:String)(r:V->List V->Hp->VK->Prop)(to:TE):TE:=λZ H Q=>to Z H λx H1=>U1 K T x H1/\r x [] H1 Q
def tBM(K:Qqy)(T:String)(r:V->List V->Hp->VK->Prop)(to:TE)(t:TA):TE:=λZ H Q=>to Z H λx H1=>U1 K T x H1/\t Z H1 λxs H2=>r x xs H2 Q
variable{o e:Expr}{es:List Expr}{to:TE}{t:TA}{name:Str}{apos kY:Pos}{T id:String}{r:V->List V->Hp->VK->Prop}
theorem H_(pa:PlainAttrs T)(slot:Slot T name id)(RH:typeOf (.builtin id)=pure (.type "method_descriptor"))(hm:UX X id r)(ho:PE X o to)
  (JT:attributeBase o name X.env (eval o X.env)=eval o X.env:=by rfl) (JU:(apos.endLine ==kY.line)=true:=by rfl):PE X (.Call (.Attribute o name apos) [] [] kY) (U2 X.K T r to):=by
 intro b_ s Z H Q I h
 refine wpAny_Call_method0_late JT JU (iX (ho b_ s Z H _ I h) λv s1 iG=>?_)
 obtain⟨x,H1,I1,r1,ty,q1⟩:=iG
 obtain⟨h1,h2⟩:=HZ I1 r1 ty
 exact⟨T,id,pa,slot,RH,h1,h2,abp rfl (PySem.evalArgs_none (hm b_ s1 Z H1 x [] v [] Q I1 r1 .nil q1))⟩
theorem k7(pa:PlainAttrs T)(slot:Slot T name id)(RH:typeOf (.builtin id)=pure (.type "method_descriptor"))(hm:UX X id r)(ho:PE X o to)(ha:PA X (e::es) t)
  (JT:attributeBase o name X.env (eval o X.env)=eval o X.env:=by rfl)
  (VF:((backTo kY (starEach (e::es) X.env)).all (λx=>!x.1)&&(backToKw kY (keywordEach [] X.env)).all (λx=>x.1.isSome)
   &&decide ((e::es).length+([]:List Keyword).length+(if([]:List Keyword).isEmpty then 0 else 1)<30))=true:=by rfl)
  (JU:(apos.endLine ==kY.line)=true:=by rfl) (hs:starEach (e::es) X.env=(false,eval e X.env)::starEach es X.env:=by rfl) (OU:(backTo kY (starEach es X.env)).any (·.1)=false:=by rfl) :
  PE X (.Call (.Attribute o name apos) (e::es) [] kY) (tBM X.K T r to t):=by
 intro b_ s Z H Q I h
 refine wpAny_Call_method_late JT VF JU rfl (iX (ho b_ s Z H _ I h) λv s1 iG=>?_)
 obtain⟨x,H1,I1,r1,ty,q1⟩:=iG
 obtain⟨h1,h2⟩:=HZ I1 r1 ty
 refine⟨T,id,pa,slot,RH,h1,h2,?_⟩
 have hA:=ha kY b_ s1 Z H1 _ I1 q1
 rw[hs] at hA ⊢
 refine abp (by show(false||(backTo kY (starEach es X.env)).any (·.1))=false;rw[OU]<;>rfl) (abD ?_)
 exact iX hA λus s2 ⟨vs,H2,I2,r2,q2⟩=>hm b_ s2 Z H2 x vs v us Q I2 r1 r2 q2
end
def Tw(X:Cx)(id:String)(r:V->List V->Hp->VK->Prop):Prop:=
 ∀(b_:Qqz)(s:Shared)(Z:St)(H:Hp)(x:V)(xs:List V)(v:Value)(us:List Value)(Q:VK),Inv X b_ Z H s->RelV x v->Vals xs us->r x xs H Q->
  wpAny (model X.prog X.w) X.A (call (.builtin id) (v::us)) (EP X b_ Z Q) X.xe s
theorem Vals.one:∀{x:V} {us:List Value},Vals [x] us->∃u,us=[u]/\RelV x u
 | _,_,.cons r .nil=>⟨_,rfl,r⟩
theorem Vals.zero:∀{us:List Value},Vals [] us->us=[]
 | _,.nil=>rfl
theorem Vals.dropLast{xs:List V}{us:List Value}(h:Vals xs us):Vals xs.dropLast us.dropLast:=by
 induction h with
 | nil=>exact .nil
 | cons r t ih=>
  cases t with
  | nil=>exact .nil
  | cons q t'=>exact .cons r ih
theorem Vals.rep{xs:List V}{us:List Value}(h:Vals xs us):∀k:Nat,Vals (List.replicate k xs).flatten (List.replicate k us).flatten
 | 0=>.nil
 | k+1=>by
  rw[aa7,aa7,abY,abY]
  exact Vals.append h (Vals.rep h k)
theorem EC{Z:Type}(l:List Z):l.eraseIdx (l.length-1)=l.dropLast:=by
 induction l with
 | nil=>rfl
 | cons a r ih=>
  cases r with
  | nil=>rfl
  | cons b r=>
   have e:(a::b::r).length-1=((b::r).length-1)+1:=by
    have h1:(a::b::r).length=r.length+2:=rfl
    have h2:(b::r).length=r.length+1:=rfl
    omega
   rw[e,List.eraseIdx_cons_succ,ih]
   all_goals rfl
theorem foldl_rep(ib:List Value):∀(k:Nat)(acc:List Value),
  List.foldl (λx1 x2=>x1++x2) acc.toArray (List.replicate k ib.toArray)=(acc++(List.replicate k ib).flatten).toArray
 | 0,acc=>by simp
 | k+1,acc=>by
  have e:acc.toArray++ib.toArray=(acc++ib).toArray:=by simp
  have e2:(acc++ib)++(List.replicate k ib).flatten=acc++(List.replicate (k+1) ib).flatten:=by
   rw[aa7,abY,aaK]
  rw[<-e2,<-foldl_rep ib k (acc++ib),<-e,aa7,acf]
section
variable{X:Cx}{b_:Qqz}{Z:St}{H:Hp}{s:Shared}{l b:Addr}{xs ys zs:List V}
theorem Inv.KR{ib its':List Value}{n:Nat}{f:Array Value->Array Value}{t':Nat}(I:Inv X b_ Z H s)(hH:H l=some (.lst xs))
  (e:s.heap.get? l=some {cls:=.type "list",data:=.seq ib.toArray n}) (hf:f ib.toArray=its'.toArray) (hv:Vals ys its') (hz:ys.length<=sizeLine) :
  Inv X b_ Z (upd H l (.lst ys)) {s with heap:=s.heap.update l (Obj.mapSeq f),toks:=t'}:=by
 have q:=PySem.IsL.update e f
 rw[hf] at q
 refine I.write (x:=l) (e:=l) (by rw[hH];exact trivial) (.inl rfl) (λb' u hb hu=>(abf s.heap (Obj.mapSeq f) (abE hb)).trans hu) ⟨_,q⟩ ?_
 exact⟨hz,its',_,hv,q⟩
theorem Inv.KS{ib:List Value}{t':Nat}(I:Inv X b_ Z H s)(hv:Vals ys ib)(hz:ys.length<=sizeLine) :
  Inv X b_ Z (upd H s.heap.objs.size (.lst ys)) {s with heap:=s.heap.push {cls:=.type "list",data:=.seq ib.toArray},toks:=t'}:=
 I.laid (λ_ _ q=>Ve _ q) (Vb _) ⟨hz,ib,0,hv,YK _ rfl⟩
theorem Inv.fresh(I:Inv X b_ Z H s):H s.heap.objs.size=none:=I.iC.fresh (Vb _)
theorem Inv.C3(I:Inv X b_ Z H s)(hH:H l=some (.lst xs)):xs.length<=sizeLine/\∃(ib:List Value)(n:Nat),Vals xs ib/\xs.length=ib.length/\s.heap.get? l=some {cls:=.type "list",data:=.seq ib.toArray n}:=by
 obtain⟨z,ib,n,r,e⟩:=I.iC l _ hH
 exact⟨z,ib,n,r,r.length,e⟩
theorem C4{n:Nat}(h:n<=sizeLine):Builtin.List.listTooLong n=false:=by
 unfold Builtin.List.listTooLong
 exact aai (by omega)
end
section
variable{X:Cx}
inductive KU(x:V)(vs:List V)(H:Hp)(Q:VK):Prop
 | mk (l xs y) (_:x=.ref l) (_:vs=[y]) (_:H l=some (.lst xs)) (_:xs.length<sizeLine) (_:Q .jb (upd H l (.lst (xs++[y]))))
theorem iP:Tw X "list.append" KU:=by
 intro b_ s Z H x vs v us Q I rx rv h
 obtain⟨l,xs,y,rfl,rfl,hH,hz,q⟩:=h
 cases rx
 obtain⟨u,rfl,ru⟩:=rv.one
 obtain⟨z,ib,n,r,hl,e⟩:=I.C3 hH
 refine call_meets F.slot_list_append ⟨_,e,rfl⟩ F.entry_list_append (F.args_list_append_2 _ _) (PySem.list_append l ib.toArray n u (by rw[aaa];omega)) ⟨e,?_⟩
 refine⟨.jb,_,I.KR (its':=ib++[u]) hH e (by simp) (r.append (.cons ru .nil)) ?_,rfl,q⟩
 rw[Vh,List.length_singleton]
 omega
def KW:V->List V->Hp->VK->Prop:=λx vs H Q=>∃l b xs zs,x=.ref l/\vs=[.ref b]/\H l=some (.lst xs)/\H b=some (.lst zs)/\xs.length+zs.length<=sizeLine/\Q .jb (upd H l (.lst (xs++zs)))
theorem AJ:Tw X "list.extend" KW:=by
 intro b_ s Z H x vs v us Q I rx rv h
 obtain⟨l,b,xs,zs,rfl,rfl,hH,hB,hz,q⟩:=h
 cases rx
 obtain⟨u,rfl,ru⟩:=rv.one
 cases ru
 obtain⟨z,ib,n,r,hl,e⟩:=I.C3 hH
 obtain⟨z2,lL,n2,r2,JV,e2⟩:=I.C3 hB
 have hsz:ib.toArray.size+lL.toArray.size<=sizeLine:=by rw[aaa,aaa];omega
 have JW:¬(!ib.toArray.isEmpty&&Builtin.List.listTooLong (ib.toArray.size+lL.toArray.size))=true:=by
  rw[C4 hsz,Bool.and_false]
  exact aab
 refine call_meets F.slot_list_extend ⟨_,e,rfl⟩ F.entry_list_extend (F.args_list_extend_2 _ _)
  (AutoSeq1.list_extend_list_list_0 l ib.toArray n b lL.toArray n2 JW (by rw[aaa];omega) (by omega)) ⟨e,e2,?_⟩
 refine⟨.jb,_,I.KR (its':=ib++lL) hH e (by simp) (r.append r2) ?_,rfl,q⟩
 rw[Vh]
 omega
def U3:V->List V->Hp->VK->Prop:=λx vs H Q=>∃l xs y,x=.ref l/\vs=[]/\H l=some (.lst xs)/\xs[xs.length-1]?=some y/\Q y (upd H l (.lst xs.dropLast))
theorem NI:Tw X "list.pop" U3:=by
 intro b_ s Z H x vs v us Q I rx rv h
 obtain⟨l,xs,y,rfl,rfl,hH,hy,q⟩:=h
 cases rx
 have VG:=rv.zero
 subst VG
 obtain⟨z,ib,n,r,hl,e⟩:=I.C3 hH
 obtain⟨u,hu,ru⟩:=r.get hy
 have TN:ib.toArray[ib.toArray.size-1]?=some u:=by
  show ib.toArray[ib.length-1]?=some u
  rw[<-aaL,<-hl]
  exact hu
 refine call_meets F.slot_list_pop ⟨_,e,rfl⟩ F.entry_list_pop (F.args_list_pop_1 _) (MeetsSeq.list_pop_last l ib.toArray n u TN (by rw[aaa];omega)) ⟨e,?_⟩
 refine⟨y,_,I.KR (its':=ib.dropLast) hH e ?_ r.dropLast ?_,ru,q⟩
 ·show ib.toArray.eraseIdxIfInBounds (ib.toArray.size-1)=ib.dropLast.toArray
  rw[aaa,List.eraseIdxIfInBounds_toArray,EC]
 ·rw[List.length_dropLast]
  omega
def NJ:V->List V->Hp->VK->Prop:=λx vs H Q=>∃l xs,x=.ref l/\vs=[]/\H l=some (.lst xs)/\Q .jb (upd H l (.lst []))
theorem Ia:Tw X "list.clear" NJ:=by
 intro b_ s Z H x vs v us Q I rx rv h
 obtain⟨l,xs,rfl,rfl,hH,q⟩:=h
 cases rx
 have VG:=rv.zero
 subst VG
 obtain⟨z,ib,n,r,hl,e⟩:=I.C3 hH
 refine call_meets F.slot_list_clear ⟨_,e,rfl⟩ F.entry_list_clear (F.args_list_clear_1 _) (AutoSeq1.list_clear_list_0 l ib.toArray n (by rw[aaa];omega)) ⟨e,?_⟩
 exact⟨.jb,_,I.KR (its':=[]) (ys:=[]) hH e rfl .nil (aaI _),rfl,q⟩
inductive U4(x:V)(y:V)(H:Hp)(Q:VK):Prop
 | mk (l b xs zs) (_:x=.ref l) (_:y=.ref b) (_:H l=some (.lst xs)) (_:H b=some (.lst zs)) (_:xs.length+zs.length<=sizeLine) (_:∀p,H p=none->Q (.ref p) (upd H p (.lst (xs++zs))))
theorem oK:ye X (binaryOp .Add) U4:=by
 intro b_ s Z H x y v u Q I rx ry h
 obtain⟨l,b,xs,zs,rfl,rfl,hH,hB,hz,q⟩:=h
 cases rx
 cases ry
 obtain⟨z,ib,n,r,hl,e⟩:=I.C3 hH
 obtain⟨z2,lL,n2,r2,JV,e2⟩:=I.C3 hB
 refine PySem.P.add_list e e2 ?_ (by rw[aaa,aaa];omega)
 have ea:ib.toArray++lL.toArray=(ib++lL).toArray:=by simp
 rw[ea]
 exact⟨.ref _,_,I.KS (t':=s.toks) (r.append r2) (by rw[Vh];omega),rfl,q _ I.fresh⟩
def U5:R2:=λx y H Q=>∃l k xs,x=.ref l/\y=.int k/\H l=some (.lst xs)/\-(2 ^ 63)<=k/\k<2 ^ 63/\xs.length*k.toNat<=sizeLine/\
 ∀p,H p=none->Q (.ref p) (upd H p (.lst (List.replicate k.toNat xs).flatten))
theorem len_rep{Z:Type}(xs:List Z)(k:Nat):(List.replicate k xs).flatten.length=k*xs.length:=by
 induction k with
 | zero=>simp
 | succ k ih=>rw[aa7,abY,Vh,ih,Nat.succ_mul,Nat.add_comm]
theorem ED:ye X (binaryOp .Mult) U5:=by
 intro b_ s Z H x y v u Q I rx ry h
 obtain⟨l,k,xs,rfl,rfl,hH,h1,h2,hz,q⟩:=h
 cases rx
 obtain⟨t,rfl⟩:=ry
 obtain⟨z,ib,n,r,hl,e⟩:=I.C3 hH
 have hlen:ib.toArray.size*k.toNat<=sizeLine:=by rw[aaa,<-hl];exact hz
 have VH:¬ib.toArray.size*k.toNat>(2 ^ 63-1)/8:=by
  have:(sizeLine:Nat)<=(2 ^ 63-1)/8:=by decide
  omega
 have VI:¬(!Builtin.List.listFitsIndex k)=true:=by
  rw[fitsIndex_both h1 h2]
  exact aab
 have JW:¬Builtin.List.listTooLong (ib.toArray.size*k.toNat)=true:=by
  rw[C4 hlen]
  exact aab
 have VJ:List.foldl (λx1 x2=>x1++x2) #[] (List.replicate (if ib.toArray.isEmpty=true then 0 else k.toNat) ib.toArray)=(List.replicate k.toNat ib).flatten.toArray:=by
  have f0:∀m:Nat,List.foldl (λx1 x2=>x1++x2) #[] (List.replicate m ib.toArray)=(List.replicate m ib).flatten.toArray:=λm=>by
   have:=foldl_rep ib m []
   rw[List.nil_append] at this
   exact this
  rw[f0]
  cases ib with
  | nil=>simp
  | cons a r'=>rw[aac (by simp)]
 refine wpAny_binaryOp_repeat_ref (T:="list") (U:="int") (by decide) ⟨_,e,rfl⟩ (λs'=>typeIs_int s' k t) noFill_list_mul F.fills_int_mul F.slot_int_rmul repeat_list F.slot_int_index.lookup
  (call_meets F.slot_int_rmul (typeIs_int s k t) F.entry_int_rmul (F.args_int_rmul_2 _ _) (int___rmul___int_list k t l ib.toArray n)
   ⟨e,rfl,⟨_,e,rfl⟩,call_meets F.slot_list_mul ⟨_,e,rfl⟩ F.entry_list_mul (F.args_list_mul_2 _ _) (AutoListH.list___mul___list_int_3 l ib.toArray n k t VI VH JW) ⟨e,?_⟩⟩)
 rw[VJ]
 exact⟨.ref _,_,I.KS (t':=s.toks) (r.rep k.toNat) (by rw[len_rep,Nat.mul_comm];exact hz),rfl,q _ I.fresh⟩
end
section
variable{prog:Program}{w:World}{A:Around}{E:Qqq}{s:Shared}
end
section
variable{X:Cx}
end
section
variable{Z:Type}[DecidableEq Z]
def iA(kvs:List (Z×V))(k:Z):Option V:=(kvs.find? λkv=>decide (kv.1=k)).map (·.2)
def putK(kvs:List (Z×V))(k:Z)(v:V):List (Z×V):=
 if(kvs.any λkv=>decide (kv.1=k))=true then kvs.map (λkv=>if kv.1=k then(kv.1,v) else kv) else kvs++[(k,v)]
def kD(kvs:List (Z×V))(k:Z):List (Z×V):=kvs.filter λkv=>decide (kv.1≠k)
theorem jh{p:Z×V}{r:List (Z×V)}{k:Z}(e:p.1=k):iA (p::r) k=some p.2:=by simp[iA,acg,e]
theorem i_{p:Z×V}{r:List (Z×V)}{k:Z}(e:¬p.1=k):iA (p::r) k=iA r k:=by simp[iA,acg,e]
theorem qX(k:Z):∀kvs:List (Z×V),(kvs.any λkv=>decide (kv.1=k))=(iA kvs k).isSome
 | []=>rfl
 | p::r=>by
  rw[List.any_cons]
  by_cases e:p.1=k
  ·simp only [jh e,V7 e,Bool.true_or,Option.isSome_some]
  ·rw[i_ e,aai e,Bool.false_or];exact qX k r
theorem C5(k j:Z)(y:V):∀kvs:List (Z×V),iA (kvs.map λkv=>if kv.1=k then(kv.1,y) else kv) j=(iA kvs j).map λx=>if j=k then y else x
 | []=>rfl
 | p::r=>by
  have ih:=C5 k j y r
  rw[aat]
  by_cases h:p.1=k
  ·rw[aag h]
   by_cases e:p.1=j
   ·rw[jh (p:=(p.1,y)) e,jh e,abJ,aag (e.symm.trans h)]
   ·rw[i_ (p:=(p.1,y)) e,i_ e,ih]
  ·rw[aac h]
   by_cases e:p.1=j
   ·rw[jh (p:=p) e,jh e,abJ,aac (λz=>h (e.trans z))]
   ·rw[i_ (p:=p) e,i_ e,ih]
theorem AK(k j:Z)(y:V):∀kvs:List (Z×V),iA kvs k=none->iA (kvs++[(k,y)]) j=if j=k then some y else iA kvs j
 | [],_=>by
  by_cases e:k=j
  ·rw[aag e.symm];exact jh (p:=(k,y)) e
  ·rw[aac (λz=>e z.symm)];exact i_ (p:=(k,y)) e
 | p::r,hn=>by
  rw[List.cons_append]
  have hk:¬p.1=k:=λz=>by rw[jh z] at hn;cases hn
  rw[i_ hk] at hn
  have ih:=AK k j y r hn
  by_cases e:p.1=j
  ·rw[jh e,jh e,aac (λz=>hk (e.trans z))]
  ·rw[i_ e,i_ e,ih]
theorem jq(kvs:List (Z×V))(k j:Z)(y:V):iA (putK kvs k y) j=if j=k then some y else iA kvs j:=by
 unfold putK
 by_cases a:(kvs.any λkv=>decide (kv.1=k))=true
 ·rw[aag a,C5]
  rw[qX] at a
  by_cases e:j=k
  ·obtain⟨x,hx⟩:=Option.isSome_iff_exists.mp a
   rw[aag e,e,hx,abJ,aag rfl]
  ·rw[aac e]
   cases iA kvs j with
   | none=>rfl
   | some x=>rw[abJ,aac e]
 ·rw[aac a]
  refine AK k j y kvs ?_
  rw[qX] at a
  cases q:iA kvs k with
  | none=>rfl
  | some x=>rw[q] at a;exact(a rfl).elim
theorem iQ(kvs:List (Z×V))(k:Z)(v:V):(putK kvs k v).length<=kvs.length+1:=by
 unfold putK
 split
 ·rw[QU];omega
 ·rw[Vh,W7,acs];omega
theorem C6{kvs:List (Z×V)}{k:Z}(v:V)(h:iA kvs k=none):putK kvs k v=kvs++[(k,v)]:=by
 unfold putK
 rw[qX,h]
 exact aac (by decide)
theorem pS.o4{o:Option V}{u:Option Value}(r:pS o u):o.isSome=u.isSome:=by
 cases o with
 | none=>cases u with
  | none=>rfl
  | some _=>exact(show False from r).elim
 | some _=>cases u with
  | none=>exact(show False from r).elim
  | some _=>rfl
theorem pS.getD{o:Option V}{u:Option Value}{d:V}{d':Value}(r:pS o u)(rd:RelV d d'):RelV (o.getD d) (u.getD d'):=by
 cases o with
 | none=>cases u with
  | none=>exact rd
  | some _=>exact(show False from r).elim
 | some _=>cases u with
  | none=>exact(show False from r).elim
  | some _=>exact r
theorem KV.val{kvs:List (Z×V)}{vs:List (Z×Value)}(r:KV kvs vs)(k:Z):pS (iA kvs k) (valueAt vs k):=by
 unfold KV at r
 induction r with
 | nil=>exact True.intro
 | @cons p q ps qs h t ih=>
  obtain⟨h1,h2⟩:=h
  by_cases e:p.1=k
  ·have e':q.1=k:=h1.symm.trans e
   have b:valueAt (q::qs) k=some q.2:=by simp[valueAt,acg,e']
   rw[jh e,b];exact h2
  ·have e':¬q.1=k:=λz=>e (h1.trans z)
   have b:valueAt (q::qs) k=valueAt qs k:=by simp[valueAt,acg,e']
   rw[i_ e,b];exact ih
theorem KV.any{kvs:List (Z×V)}{vs:List (Z×Value)}(r:KV kvs vs)(k:Z):(kvs.any λkv=>decide (kv.1=k))=vs.any λkv=>decide (kv.1=k):=by
 unfold KV at r
 induction r with
 | nil=>rfl
 | cons h t ih=>rw[List.any_cons,List.any_cons,ih,h.1]
theorem KV.NK{kvs:List (Z×V)}{vs:List (Z×Value)}(r:KV kvs vs)(k:Z){y:V}{u:Value}(ry:RelV y u) :
  KV (kvs.map λkv=>if kv.1=k then(kv.1,y) else kv) (vs.map λkv=>if kv.1=k then(kv.1,u) else kv):=by
 unfold KV at r ⊢
 induction r with
 | nil=>exact .nil
 | @cons p q ps qs h t ih=>
  rw[aat,aat]
  refine .cons ?_ ih
  obtain⟨h1,h2⟩:=h
  by_cases e:p.1=k
  ·rw[aag e,aag (h1.symm.trans e)];exact⟨h1,ry⟩
  ·rw[aac e,aac (λz=>e (h1.trans z))];exact⟨h1,h2⟩
theorem KV.put{kvs:List (Z×V)}{vs:List (Z×Value)}(r:KV kvs vs)(k:Z){y:V}{u:Value}(ry:RelV y u):KV (putK kvs k y) (stored vs k u):=by
 unfold putK stored
 rw[r.any k]
 by_cases e:(vs.any λkv=>decide (kv.1=k))=true
 ·rw[aag e,aag e];exact r.NK k ry
 ·rw[aac e,aac e];exact Paired.snoc r ⟨rfl,ry⟩
theorem KV.length{kvs:List (Z×V)}{vs:List (Z×Value)}(r:KV kvs vs):kvs.length=vs.length:=aaj r
theorem Ib(kvs:List (Z×V))(k:Z):(kD kvs k).length<=kvs.length:=aaM _ _
end
theorem AL{P:Program}{w:World}{k:Key}{u:Value}(r:RelV (kV k) u):(ja P w).is k u=true:=by
 cases k with
 | inl i=>obtain⟨t,e⟩:=(show ∃t,u=Value.int i t from r);subst e;exact CO P w i t
 | inr x=>obtain⟨t,e⟩:=(show ∃t,u=Value.str x t from r);subst e;exact CP P w x t
theorem AM{P:Program}{w:World}:∀{ks:List Key} {us:List Value},Vals (ks.map kV) us->ItemsAre (ja P w) ks us
 | [],_,r=>by rw[List.map_nil] at r;cases r;exact .nil
 | k::ks,_,r=>by
  rw[aat] at r
  cases r with
  | cons h t=>exact .cons (AL h) (AM t)
abbrev KT(H:Hp):List (List Key×V)->List (List Key×Addr×Value)->Prop:=Paired λp q=>p.1=q.1/\H q.2.1=some (.tup (p.1.map kV))/\RelV p.2 q.2.2
theorem KT.val{H:Hp}{kvs:List (List Key×V)}{xs:List (List Key×Addr×Value)}(r:KT H kvs xs)(k:List Key):pS (iA kvs k) ((atKey xs k).map (·.2)):=by
 induction r with
 | nil=>exact True.intro
 | @cons p q ps qs h t ih=>
  obtain⟨h1,_,h2⟩:=h
  by_cases e:p.1=k
  ·have e':q.1=k:=h1.symm.trans e
   have b:atKey (q::qs) k=some q.2:=by simp[atKey,acg,e']
   rw[jh e,b];exact h2
  ·have e':¬q.1=k:=λz=>e (h1.trans z)
   have b:atKey (q::qs) k=atKey qs k:=by simp[atKey,acg,e']
   rw[i_ e,b];exact ih
theorem KT.NK{H:Hp}{kvs:List (List Key×V)}{xs:List (List Key×Addr×Value)}(r:KT H kvs xs)(k:List Key){y:V}{u:Value}(ry:RelV y u) :
  KT H (kvs.map λkv=>if kv.1=k then(kv.1,y) else kv) (xs.map (putAt k u)):=by
 induction r with
 | nil=>exact .nil
 | @cons p q ps qs h t ih=>
  rw[aat,aat]
  refine .cons ?_ ih
  obtain⟨h1,h2,h3⟩:=h
  unfold putAt
  by_cases e:p.1=k
  ·rw[aag e,aag (h1.symm.trans e)];exact⟨h1,h2,ry⟩
  ·rw[aac e,aac (λz=>e (h1.trans z))];exact⟨h1,h2,h3⟩
theorem KT.put{H:Hp}{kvs:List (List Key×V)}{xs:List (List Key×Addr×Value)}(r:KT H kvs xs)(k:List Key){b:Addr}{y:V}{u:Value}(hb:H b=some (.tup (k.map kV)))(ry:RelV y u) :
  KT H (putK kvs k y) (storedH xs k b u):=by
 have e:(kvs.any λkv=>decide (kv.1=k))=(atKey xs k).isSome:=by
  rw[qX,(r.val k).o4,Option.isSome_map]
 unfold putK storedH
 rw[e]
 by_cases q:(atKey xs k).isSome=true
 ·rw[aag q,aag q];exact r.NK k ry
 ·rw[aac q,aac q];exact Paired.snoc r ⟨rfl,hb,ry⟩
theorem KT.keeps{H H':Hp}{kvs:List (List Key×V)}{xs:List (List Key×Addr×Value)}(r:KT H kvs xs)(ht:∀b ys,H b=some (.tup ys)->H' b=some (.tup ys)):KT H' kvs xs:=
 Paired.j0 r λ_ _ z=>⟨z.1,ht _ _ z.2.1,z.2.2⟩
section
variable{P:Program}{w:World}{H:Hp}{h:Heap}{a:Addr}
theorem My{u:HO}(ok:qD P w H h)(e:Rd H a u):iR P w H h a u:=e.ok ok
theorem xa{kvs:List (Key×V)}(ok:qD P w H h)(e:Rd H a (.dK kvs)):kvs.length<=sizeLine/\(a ==sysModules)=false/\∃vs,KV kvs vs/\h.DictOf (ja P w) a vs:=
 show iR P w H h a (.dK kvs) from My ok e
theorem Mz{kvs:List (Key×V)}(ok:qD P w H h)(e:H a=some (.dK kvs)):kvs.length<=sizeLine/\(a ==sysModules)=false/\∃vs,KV kvs vs/\h.DictOf (ja P w) a vs:=xa ok (.inl e)
theorem t_{ks:List Key}(ok:qD P w H h)(e:H a=some (.tup (ks.map kV))):(tupleKind (ja P w)).is h ks a:=by
 obtain⟨_,ib,r,o,h1,h2,n,h3⟩:=(show iR P w H h a (.tup (ks.map kV)) from ok a _ e)
 exact⟨o,ib.toArray,n,h1,h2,h3,by simpa using AM r⟩
theorem xb{kvs:List (List Key×V)}(ok:qD P w H h)(e:Rd H a (.dT kvs)):kvs.length<=sizeLine/\(a ==sysModules)=false/\
  ∃xs,KT H kvs xs/\h.DictOfH (tupleKind (ja P w)) a xs:=by
 obtain⟨z,y,xs,r,o,es,ep,h1,h2,h3,h4,h5⟩:=(show iR P w H h a (.dT kvs) from My ok e)
 refine⟨z,y,xs,r,o,es,ep,h1,h2,h3,h4,λx hx=>?_,h5⟩
 have all:∀{l:List (List Key×V)} {m:List (List Key×Addr×Value)},KT H l m->∀x∈m,(tupleKind (ja P w)).is h x.1 x.2.1:=by
  intro l m q
  induction q with
  | nil=>intro x hx;exact nomatch hx
  | @cons p q ps qs hq t ih=>
   intro x hx
   rcases V9.mp hx with e|hx
   ·subst e
    exact t_ ok (by rw[<-hq.1];exact hq.2.1)
   ·exact ih x hx
 exact all r x hx
theorem Ic{kvs:List (List Key×V)}(ok:qD P w H h)(e:H a=some (.dT kvs)):kvs.length<=sizeLine/\(a ==sysModules)=false/\
 ∃xs,KT H kvs xs/\h.DictOfH (tupleKind (ja P w)) a xs:=xb ok (.inl e)
end
def jg(H:Hp)(a:Addr)(y:V)(r:Option V):Prop:=
 (∃kvs k,Rd H a (.dK kvs)/\y=kV k/\r=iA kvs k)\/∃kvs k b,Rd H a (.dT kvs)/\y=.ref b/\H b=some (.tup (k.map kV))/\r=iA kvs k
def mB(H:Hp)(a:Addr)(y v:V)(H':Hp):Prop:=
 (∃kvs k,H a=some (.dK kvs)/\y=kV k/\kvs.length<sizeLine/\H'=upd H a (.dK (putK kvs k v)))\/
 ∃kvs k b,H a=some (.dT kvs)/\y=.ref b/\H b=some (.tup (k.map kV))/\kvs.length<sizeLine/\H'=upd H a (.dT (putK kvs k v))
theorem jg.k{H:Hp}{a:Addr}{kvs:List (Key×V)}{k:Key}(e:H a=some (.dK kvs)):jg H a (kV k) (iA kvs k):=.inl ⟨kvs,k,.inl e,rfl,rfl⟩
theorem jg.t{H:Hp}{a b:Addr}{kvs:List (List Key×V)}{k:List Key}(e:H a=some (.dT kvs))(eb:H b=some (.tup (k.map kV))):jg H a (.ref b) (iA kvs k):=.inr ⟨kvs,k,b,.inl e,rfl,eb,rfl⟩
theorem mB.k{H:Hp}{a:Addr}{kvs:List (Key×V)}{k:Key}{v:V}(e:H a=some (.dK kvs))(hl:kvs.length<sizeLine):mB H a (kV k) v (upd H a (.dK (putK kvs k v))):=.inl ⟨kvs,k,e,rfl,hl,rfl⟩
theorem mB.t{H:Hp}{a b:Addr}{kvs:List (List Key×V)}{k:List Key}{v:V}(e:H a=some (.dT kvs))(eb:H b=some (.tup (k.map kV)))(hl:kvs.length<sizeLine) :
 mB H a (.ref b) v (upd H a (.dT (putK kvs k v))):=.inr ⟨kvs,k,b,e,rfl,eb,hl,rfl⟩
section
variable{X:Cx}{b_:Qqz}{Z:St}{H:Hp}{s:Shared}{a:Addr}{y v:V}{u r:Value}{o:Option V}{A:Around}{E:Qqq}
theorem Inv.big(I:Inv X b_ Z H s):sysModules<s.heap.objs.size:=by
 have h:mainGlobals<s.heap.objs.size:=(I.mod.glob.keeps I.bk).lt
 exact Nat.lt_trans (by decide) h
theorem GH{Q:Qqq}(hu:A.units+1<cLine)(I:Inv X b_ Z H s)(g:jg H a y (some v))(ry:RelV y u)(h:∀w' s',Inv X b_ Z H s'->RelV v w'->Q w' s') :
  wpAny (model X.prog X.w) A (getItem (.ref a) u) Q E s:=by
 rcases g with⟨kvs,k,e,ey,l⟩|⟨kvs,k,b,e,ey,eb,l⟩
 ·subst ey
  obtain⟨z,hd,vs,rel,dd⟩:=xa I.iC e
  obtain⟨w',hw,Eb⟩:=pS.some_of (v:=v) (o:=valueAt vs k) (by rw[l];exact rel.val k)
  exact wpAny_getItem_of (AL ry) dd.mapOf hw (h w' _ (I.tok _) Eb)
 ·subst ey
  cases (show u=Value.ref b from ry)
  obtain⟨z,hd,xs,rel,dd⟩:=xb I.iC e
  obtain⟨w',hw,Eb⟩:=pS.some_of (v:=v) (o:=(atKey xs k).map (·.2)) (by rw[l];exact rel.val k)
  obtain⟨p,hp,yp⟩:=Option.map_eq_some_iff.mp hw
  refine wpAny_getItem_heap (abz hu) (t_ I.iC eb) dd hp ?_
  rw[yp]
  exact h w' _ (I.tok _) Eb
theorem U6{Q:Qqq}(hu:A.units+1<cLine)(I:Inv X b_ Z H s)(g:jg H a y o)(ry:RelV y u)(h:∀s',Inv X b_ Z H s'->Q (.bool o.isSome) s') :
  wpAny (model X.prog X.w) A (compareOp .In u (.ref a)) Q E s:=by
 rcases g with⟨kvs,k,e,ey,l⟩|⟨kvs,k,b,e,ey,eb,l⟩
 ·subst ey
  obtain⟨z,hd,vs,rel,dd⟩:=xa I.iC e
  refine wpAny_in_of (AL ry) hd dd.mapOf ?_
  rw[<-(rel.val k).o4,<-l]
  exact h _ (I.tok _)
 ·subst ey
  cases (show u=Value.ref b from ry)
  obtain⟨z,hd,xs,rel,dd⟩:=xb I.iC e
  refine wpAny_in_heap (abz hu) (t_ I.iC eb) hd dd ?_
  have q:=(rel.val k).o4
  rw[Option.isSome_map] at q
  rw[<-q,<-l]
  exact h _ (I.tok _)
theorem KY{Q:Qqq}(hu:A.units+1<cLine)(I:Inv X b_ Z H s)(g:jg H a y o)(ry:RelV y u)(h:∀s',Inv X b_ Z H s'->Q (.bool (!o.isSome)) s') :
  wpAny (model X.prog X.w) A (compareOp .NotIn u (.ref a)) Q E s:=by
 rcases g with⟨kvs,k,e,ey,l⟩|⟨kvs,k,b,e,ey,eb,l⟩
 ·subst ey
  obtain⟨z,hd,vs,rel,dd⟩:=xa I.iC e
  refine wpAny_notIn_of (AL ry) hd dd.mapOf ?_
  rw[<-(rel.val k).o4,<-l]
  exact h _ (I.tok _)
 ·subst ey
  cases (show u=Value.ref b from ry)
  obtain⟨z,hd,xs,rel,dd⟩:=xb I.iC e
  refine wpAny_notIn_heap (abz hu) (t_ I.iC eb) hd dd ?_
  have q:=(rel.val k).o4
  rw[Option.isSome_map] at q
  rw[<-q,<-l]
  exact h _ (I.tok _)
theorem uJ{h':Heap}{t':Nat}{ob:HO}(I:Inv X b_ Z H s)(mu:Mq (H a))(hs:Heap.SameBut a s.heap h')(he:∃q,h'.get? a=some q)(new:iR X.prog X.w (upd H a ob) h' a ob) :
  Inv X b_ Z (upd H a ob) {s with heap:=h',toks:=t'}:=
 I.write (x:=a) (e:=a) mu (.inl rfl) (λb q hb z=>(hs.2 b hb).trans z) he new
theorem Ie{P:Program}{w:World}{H':Hp}{h':Heap}{kvs:List (Key×V)}{vs:List (Key×Value)}(z:kvs.length<=sizeLine)(hd:(a ==sysModules)=false)(rel:KV kvs vs)(dd:h'.DictOf (ja P w) a vs) :
 iR P w H' h' a (.dK kvs):=⟨z,hd,vs,rel,dd⟩
theorem GI{H':Hp}{Q:Unit->Shared->Prop}(hu:A.units+1<cLine)(I:Inv X b_ Z H s)(g:mB H a y v H')(ry:RelV y u)(rv:RelV v r)(h:∀s',Inv X b_ Z H' s'->Q () s') :
  wpAny (model X.prog X.w) A (setItem (.ref a) u r) Q E s:=by
 rcases g with⟨kvs,k,e,ey,l,eH⟩|⟨kvs,k,b,e,ey,eb,l,eH⟩
 ·subst ey eH
  obtain⟨z,hd,vs,rel,dd⟩:=Mz I.iC e
  have hz:vs.length<=sizeLine:=by rw[<-rel.length];exact z
  have hl:(putK kvs k v).length<=sizeLine:=by have:=iQ kvs k v;omega
  refine wpAny_setItem_pairs (hsz:=hz) (AL ry) dd λh' OV hs=>h _ ?_
  have he:∃q,h'.get? a=some q:=let ⟨q,_,_,hq,_⟩:=OV;⟨q,hq⟩
  exact uJ I (by rw[e];exact True.intro) hs he (Ie hl hd (rel.put k rv) OV)
 ·subst ey eH
  cases (show u=Value.ref b from ry)
  obtain⟨z,hd,xs,rel,dd⟩:=Ic I.iC e
  have hz:xs.length<=sizeLine:=by rw[<-aaj rel];exact z
  have hl:(putK kvs k v).length<=sizeLine:=by have:=iQ kvs k v;omega
  refine wpAny_setItem_heap (hsz:=hz) (abz hu) (t_ I.iC eb) dd λh' OV hs=>h _ ?_
  obtain⟨q,es,ep,hq,h2,h3,h4,_,h5⟩:=OV
  refine uJ I (by rw[e];exact True.intro) hs ⟨q,hq⟩ ⟨hl,hd,_,(rel.put k eb rv).keeps λc ys ec=>?_,q,es,ep,hq,h2,h3,h4,h5⟩
  rw[de (jc ec e (λz=>nomatch z))]
  exact ec
end
section
variable{X:Cx}{b_:Qqz}{Z:St}{H:Hp}{s:Shared}{a:Addr}{kvs:List (Key×V)}{k:Key}{u:Value}{A:Around}{E:Qqq}
end
def NL(i:Expr):Prop:=∀ov iv,subscripted i false ov iv=operate [ov,iv] (getItem ov iv)
theorem KZ{prog:Program}{w:World}{A:Around}{E:Qqq}{s:Shared}{env:Env}{value slice:Expr}{pos:Pos}{T id:String}{Q:Qqq}
  (hl:typeLookup (.type T) "__getitem__"=pure (some (.builtin id))) (hs:NL slice)
  (h:wpAny (model prog w) A (eval value env) (λo s1=>wpAny (model prog w) A (eval slice env) (λi s2=>s2.TypeIs o T/\wpAny (model prog w) A (getItem o i) Q E s2) E s1) E s) :
  wpAny (model prog w) A (eval (.Subscript value slice pos) env) Q E s:=by
 refine Subscript_ (abu h (λo s1 h1=>abu h1 (λi s2 h2=>?_) λ_ _ x=>x) λ_ _ x=>x)
 obtain⟨hT,h2⟩:=h2
 unfold subscriptTail
 refine Ph ?_
 rw[getitemInPython_of_ne hT.not_modules]
 refine Ph (abK hT hl ?_)
 have fin:wpAny (model prog w) A (subscripted slice false o i) (λr s3=>wpAny (model prog w) A (letTemporaryGo value o r >>= λ_=>pure r) Q E s3) E s2:=by
  rw[hs o i]
  exact wpAny_operating (abu h2 (λr s3 h3=>Ph (wpAny_letTemporaryGo (R8 h3))) λ_ _ x=>x)
 first
  | exact R8 (Ph fin)
  | exact Ph (R8 (Ph fin))
  | exact Ph fin
theorem C7{X:Cx}{b_:Qqz}{Z:St}{H:Hp}{s:Shared}{a:Addr}{y:V}{o:Option V}(I:Inv X b_ Z H s)(g:jg H a y o):s.TypeIs (.ref a) "dict":=by
 rcases g with⟨kvs,k,e,_,_⟩|⟨kvs,k,b,e,_,_,_⟩
 ·obtain⟨_,_,vs,_,dd⟩:=xa I.iC e
  exact dd.typeIs
 ·obtain⟨_,_,xs,_,dd⟩:=xb I.iC e
  exact dd.typeIs
def MA(td ty:TE):TE:=λZ H Q=>td Z H λx H1=>ty Z H1 λy H2=>∃a v,x=.ref a/\jg H2 a y (some v)/\Q v H2
def U7(ty td:TE):TE:=λZ H Q=>ty Z H λy H1=>td Z H1 λx H2=>∃a o,x=.ref a/\jg H2 a y o/\Q (.bl o.isSome) H2
def K0(ty td:TE):TE:=λZ H Q=>ty Z H λy H1=>td Z H1 λx H2=>∃a o,x=.ref a/\jg H2 a y o/\Q (.bl (!o.isSome)) H2
def QJ(td ty tv:TE):TS:=λD Z H=>tv Z H λv H1=>td Z H1 λx H2=>ty Z H2 λy H3=>∃a H4,x=.ref a/\mB H3 a y v H4/\D.nx Z H4
section
variable{X:Cx}{o i e value:Expr}{pos pos' OT:Pos}{td ty tv:TE}
theorem K1(hu:X.A.units+1<cLine)(ho:PE X o td)(hi:PE X i ty)(hs:NL i):PE X (.Subscript o i pos) (MA td ty):=by
 intro b_ s Z H Q I h
 refine KZ PySem.F.slot_dict_getitem.lookup hs (iX (ho b_ s Z H _ I h) λu s1 iG=>?_)
 obtain⟨x,H1,I1,rx,q1⟩:=iG
 refine iX (hi b_ s1 Z H1 _ I1 q1) λiv s2 Hx=>?_
 obtain⟨y,H2,I2,ry,a,v,ex,g,q2⟩:=Hx
 subst ex
 obtain rfl:u=Value.ref a:=rx
 exact⟨C7 I2 g,GH hu I2 g ry λw' s3 I3 Eb=>⟨v,H2,I3,Eb,q2⟩⟩
theorem pV(hu:X.A.units+1<cLine)(hi:PE X i ty)(ho:PE X o td):PC X .In i o (U7 ty td):=by
 intro b_ s Z H Q I h
 refine iX (hi b_ s Z H _ I h) λiv s1 iG=>?_
 obtain⟨y,H1,I1,ry,q1⟩:=iG
 refine iX (ho b_ s1 Z H1 _ I1 q1) λu s2 Hx=>?_
 obtain⟨x,H2,I2,rx,a,ov,ex,g,q2⟩:=Hx
 subst ex
 obtain rfl:u=Value.ref a:=rx
 exact U6 hu I2 g ry λs3 I3=>⟨.bl ov.isSome,H2,I3,rfl,q2⟩
theorem o5(hu:X.A.units+1<cLine)(hi:PE X i ty)(ho:PE X o td):PC X .NotIn i o (K0 ty td):=by
 intro b_ s Z H Q I h
 refine iX (hi b_ s Z H _ I h) λiv s1 iG=>?_
 obtain⟨y,H1,I1,ry,q1⟩:=iG
 refine iX (ho b_ s1 Z H1 _ I1 q1) λu s2 Hx=>?_
 obtain⟨x,H2,I2,rx,a,ov,ex,g,q2⟩:=Hx
 subst ex
 obtain rfl:u=Value.ref a:=rx
 exact KY hu I2 g ry λs3 I3=>⟨.bl (!ov.isSome),H2,I3,rfl,q2⟩
theorem jd(hu:X.A.units+1<cLine)(ho:PE X o td)(hi:PE X i ty)(hv:PE X value tv)(hs:swapsWith value (some (.Subscript o i pos')) pos.line X.env=pure false) :
  PS X (.Assign [.Subscript o i pos'] value pos) (QJ td ty tv):=by
 intro b_ s Z H D I h
 refine wpAny_Assign_Subscript (iX (hv b_ s Z H _ I h) λr s1 iG=>?_) hs
 obtain⟨v,H1,I1,rv,q1⟩:=iG
 refine iX (ho b_ s1 Z H1 _ I1 q1) λu s2 Hx=>?_
 obtain⟨x,H2,I2,rx,q2⟩:=Hx
 refine iX (hi b_ s2 Z H2 _ I2 q2) λiv s3 zz2=>?_
 obtain⟨y,H3,I3,ry,a,H4,ex,g,q3⟩:=zz2
 subst ex
 obtain rfl:u=Value.ref a:=rx
 exact GI hu I3 g ry rv λs4 I4=>⟨Z,H4,I4,q3⟩
end
theorem Ig{P:Program}{w:World}{H:Hp}(h:Heap)(hb:sysModules<h.objs.size):iR P w H (h.push {cls:=.type "dict",data:=.dict #[]}) h.objs.size (.dK []):=
 ⟨aaI _,abt.mpr (abE (aaD hb)),[],.nil,Heap.DictOf.new h⟩
theorem Ih{P:Program}{w:World}{H:Hp}(h:Heap)(hb:sysModules<h.objs.size):iR P w H (h.push {cls:=.type "dict",data:=.dict #[]}) h.objs.size (.dT []):=
 ⟨aaI _,abt.mpr (abE (aaD hb)),[],.nil,_,#[],0,YK _ rfl,⟨rfl,rfl,rfl⟩,rfl,rfl,abh⟩
def NM:TE:=λ_ H Q=>∀p,H p=none->Q (.ref p) (upd H p (.dK []))
def NN:TE:=λ_ H Q=>∀p,H p=none->Q (.ref p) (upd H p (.dT []))
section
variable{X:Cx}{pos:Pos}
theorem mD:PE X (.Dict [] [] pos) NM:=λb_ s Z H Q I h=>
 wpAny_Dict_empty ⟨.ref s.heap.objs.size,_,I.laid (a:=s.heap.objs.size) (o:=.dK []) (t':=s.toks) (λ_ _ q=>Ve _ q) (Vb _) (Ig s.heap I.big),rfl,h _ (I.iC.fresh (Vb _))⟩
theorem lu:PE X (.Dict [] [] pos) NN:=λb_ s Z H Q I h=>
 wpAny_Dict_empty ⟨.ref s.heap.objs.size,_,I.laid (a:=s.heap.objs.size) (o:=.dT []) (t':=s.toks) (λ_ _ q=>Ve _ q) (Vb _) (Ih s.heap I.big),rfl,h _ (I.iC.fresh (Vb _))⟩
end
structure M1(X:Cx)(o:Expr)(m:Str)(apos:Pos)(e:Expr)(kY:Pos):Prop where
 base:attributeBase o m X.env (eval o X.env)=eval o X.env
 kL:((backTo kY (starEach [e] X.env)).all (λx=>!x.1)&&(backToKw kY (keywordEach [] X.env)).all (λx=>x.1.isSome)
  &&decide (([e]:List Expr).length+([]:List Keyword).length+(if([]:List Keyword).isEmpty then 0 else 1)<30))=true
 line:(apos.endLine ==kY.line)=true
 trees:backTo kY (starEach [e] X.env)=[(false,eval e X.env)]
structure M2(X:Cx)(o:Expr)(m:Str)(apos:Pos)(e f:Expr)(kY:Pos):Prop where
 base:attributeBase o m X.env (eval o X.env)=eval o X.env
 kL:((backTo kY (starEach [e,f] X.env)).all (λx=>!x.1)&&(backToKw kY (keywordEach [] X.env)).all (λx=>x.1.isSome)
  &&decide (([e,f]:List Expr).length+([]:List Keyword).length+(if([]:List Keyword).isEmpty then 0 else 1)<30))=true
 line:(apos.endLine ==kY.line)=true
 trees:backTo kY (starEach [e,f] X.env)=[(false,eval e X.env),(false,eval f X.env)]
def QK(H:Hp)(a:Addr):Prop:=(∃kvs,Rd H a (.dK kvs))\/∃kvs,Rd H a (.dT kvs)
theorem Br{X:Cx}{b_:Qqz}{Z:St}{H:Hp}{s:Shared}{a:Addr}(I:Inv X b_ Z H s)(d:QK H a) :
  s.TypeIs (.ref a) "dict"/\(∀b,Value.ref a=.ref b->∃ob,s.heap.get? b=some ob/\ob.dict=none)/\(a ==sysModules)=false:=by
 rcases d with⟨kvs,e⟩|⟨kvs,e⟩
 ·obtain⟨_,hd,vs,_,dd⟩:=xa I.iC e
  refine⟨dd.typeIs,λb q=>?_,hd⟩
  cases q
  obtain⟨ob,_,_,h1,h2,_⟩:=dd
  exact⟨ob,h1,h2.2.1⟩
 ·obtain⟨_,hd,xs,_,dd⟩:=xb I.iC e
  refine⟨dd.typeIs,λb q=>?_,hd⟩
  cases q
  obtain⟨ob,_,_,h1,h2,_⟩:=dd
  exact⟨ob,h1,h2.2.1⟩
section
variable{X:Cx}{b_:Qqz}{Z:St}{H:Hp}{s:Shared}{a:Addr}{y d:V}{u r:Value}{o:Option V}{A:Around}{E:Qqq}
theorem NO{Q:Qqq}(hu:A.units+1<cLine)(I:Inv X b_ Z H s)(g:jg H a y o)(ry:RelV y u)(rd:RelV d r)(h:∀w' s',Inv X b_ Z H s'->RelV (o.getD d) w'->Q w' s') :
  wpAny (model X.prog X.w) A (call (.builtin "dict.get") [.ref a,u,r]) Q E s:=by
 rcases g with⟨kvs,k,e,ey,l⟩|⟨kvs,k,b,e,ey,eb,l⟩
 ·subst ey
  obtain⟨z,hd,vs,rel,dd⟩:=xa I.iC e
  refine call_meetsIn PySem.F.slot_dict_get dd.typeIs PySem.F.entry_dict_get (PySem.F.args_dict_get_3 _ _ _) (meets_dict_get_default (ja X.prog X.w) a (AL ry) hd r) ⟨_,dd.mapOf,h _ _ (I.tok _) ?_⟩
  rw[l]
  exact(rel.val k).getD rd
 ·subst ey
  cases (show u=Value.ref b from ry)
  obtain⟨z,hd,xs,rel,dd⟩:=xb I.iC e
  refine call_meetsIn PySem.F.slot_dict_get dd.typeIs PySem.F.entry_dict_get (PySem.F.args_dict_get_3 _ _ _) (meetsH_dict_get_default (tupleKind (ja X.prog X.w)) a b hd r) ⟨abz hu,k,xs,t_ I.iC eb,dd,h _ _ (I.tok _) ?_⟩
  rw[l]
  exact(rel.val k).getD rd
end
def NP(td ty tx:TE):TE:=λZ H Q=>td Z H λx H1=>∃a,x=.ref a/\QK H1 a/\ty Z H1 λy H2=>tx Z H2 λz H3=>∃o,jg H3 a y o/\Q (o.getD z) H3
section
variable{X:Cx}{o e f:Expr}{apos kY:Pos}{td ty tx:TE}
theorem yD(hu:X.A.units+1<cLine)(ho:PE X o td)(he:PE X e ty)(hf:PE X f tx)(m:M2 X o "get" apos e f kY):PE X (.Call (.Attribute o "get" apos) [e,f] [] kY) (NP td ty tx):=by
 intro b_ s Z H Q I h
 refine wpAny_Call_method m.base m.kL m.line ab4 PySem.F.slot_dict_get PySem.F.type_dict_get (iX (ho b_ s Z H _ I h) λu s1 iG=>?_)
 obtain⟨x,H1,I1,rx,a,ex,d,q1⟩:=iG
 subst ex
 obtain rfl:u=Value.ref a:=rx
 obtain⟨t1,t2,_⟩:=Br I1 d
 refine⟨t1,t2,?_⟩
 rw[m.trees]
 refine abp rfl (abD (abd (iX (he b_ s1 Z H1 _ I1 q1) λiv s2 ⟨y,H2,I2,ry,q2⟩=>
  abd (iX (hf b_ s2 Z H2 _ I2 q2) λfv s3 ⟨z,H3,I3,rz,ov,g,q3⟩=>abw ?_))))
 exact NO hu I3 g ry rz λw' s4 I4 Eb=>⟨_,H3,I4,Eb,q3⟩
end
section
variable{X:Cx}{b_:Qqz}{Z:St}{H:Hp}{s:Shared}{a:Addr}{kvs:List (Key×V)}{A:Around}{E:Qqq}
end
section
variable{X:Cx}{b_:Qqz}{Z:St}{H:Hp}{s:Shared}{a:Addr}{y:V}{u:Value}{A:Around}{E:Qqq}
end
end L2
namespace YC
open PySem PySem.W PySem.Calls PyProof.Rows
theorem xT{P:Params}{h:Heap}:∀(ns:List Int)(vs:List Value),WellAll P h vs (ns.map WData.int)->IntsAre vs ns:=by
 intro ns
 induction ns with
 | nil=>
  intro vs w
  rw[List.map_nil] at w
  cases w
  exact .nil
 | cons n ns ih=>
  intro vs w
  rw[aat] at w
  cases w with
  | cons a b=>
   cases a
   exact .cons _ _ (ih _ b)
theorem GJ{l:OpenLaw}{n:Nat}(hn:l.most=some n){P:Params}{h:Heap}{args:List WData}{vals:List Value}
  (L8:l.row.toRowW.claim.pre args=true) (MQ:WellAll P h vals args) :
  ∃a vs ns,vals=[Value.ref a]/\args=[WData.list (ns.map WData.int)]/\h.get? a=some {cls:=.type "list",data:=.seq vs.toArray}/\IntsAre vs ns/\ns.length<=n:=by
 have hsh:WShape.hasAll [] args [.list .int]=true:=(pre_splitW L8).1
 have hc:l.pre.holds [] {args:=args}=true:=(pre_splitW L8).2
 obtain⟨d,r,rfl,h1,h2⟩:=hasAllW_cons hsh
 obtain rfl:=hasAllW_nil h2
 obtain⟨xs,rfl,h3⟩:=hasW_list h1
 obtain⟨ns,rfl⟩:=items_int h3
 have hlen:ns.length<=n:=by
  unfold OpenLaw.pre at hc
  have h4:(WTm.not (.lt (.lit (.int (n:Int))) (.len (.arg 0)))).holds [] {args:=[.list (ns.map .int)]}=true:=by
   have h4:=(holds_andW hc).1
   rw[hn] at h4
   exact h4
  have h5:=condW_of h4 (w_not (w_lt w_lit (w_len_list (w_arg rfl))))
  rw[QU] at h5
  refine Nat.le_of_not_lt λq=>?_
  have q':(n:Int)<((ns.length:Nat):Int):=by omega
  first
   | (rw[V7 q'] at h5;exact absurd h5 (by decide))
   | (simp at h5;omega)
 cases MQ with
 | cons w1 w2=>
  cases w2
  cases w1 with
  | list ho Hy=>exact⟨_,_,ns,rfl,rfl,ho,xT ns _ Hy,hlen⟩
theorem GK(l:OpenLaw)(args:List WData):l.row.toRowW.claim.post args (.bool true) args=true:=
 postW_of (r:=l.row.toRowW) (X:=(true ==true))
  (show WShape.has [] (.bool true) .bool=true by first|rfl|decide|simp[WShape.has,WShape.arms,WShape.armsAll])
  (show(WTm.eq .res (.lit (.bool true))).value [] {args:=args,res:=some (.bool true),after:=args}=some (.bool (true ==true)) from w_eq_bool (w_res rfl) w_lit) rfl
theorem C8{l:OpenLaw}{n:Nat}{q:Program}{loose:List Str}{XP:(Qqx)->Heap->Prop}{YP:World->Heap->Prop}{d:DefRec}
  (hn:l.most=some n) (RI:d.params.defaults=[])
  (call:∀(w:World)(s₀ s1:Shared)(mg mb:Qqx)(fa:Addr)(o:Obj)(pm cd doc:Value)(a:Addr)(vs:List Value)(ns:List Int),
   Ground q loose [] XP w s₀ mg mb s1.heap->YP w s1.heap->
   s1.heap.get? fa=some o->o.data=.func (docDef d.name d.params d.body d.scope pm cd doc)->s1.heap.CodeRec cd d.name->mg d.name=some (.ref fa)->
   s1.heap.get? a=some {cls:=.type "list",data:=.seq vs.toArray}->IntsAre vs ns->ns.length<=n->s1.gens=#[]->
   codeAny (model l.prog w) callerA (.call (.ref fa) ⟨[.ref a],[]⟩) (λr s'=>r=.ok (.ret (.bool true))/\OldK s1.heap s'.heap/\s'.os=s1.os/\AllBare s'.gens) s1) :
  WalkO q loose XP YP l.row.toRowW d [] (λf vs=>PySem.call f vs):=by
 intro w s₀ s1 mg mb G Y fa o pm cd doc dV kV ho hd Bg hD RJ hg args vals as L8 hlay hrd MQ TQ
 obtain rfl:dV=.none:=Dflts.none hD RI
 obtain rfl:kV=.none:=Dflts.noKw hD
 obtain⟨a,vs,ns,rfl,rfl,OW,hints,hlen⟩:=GJ hn L8 MQ
 refine enter_call (acd (call w s₀ s1 mg mb fa o pm cd doc a vs ns G Y ho (fd_plain hd) Bg RJ OW hints hlen hg) λr s' hq=>?_)
 obtain⟨rfl,h2,h3,h4⟩:=hq
 exact⟨.inl ⟨.bool true,.bool true,[],rfl,λ_=>rfl,.bool true,GK l _,λ_=>⟨List.Pairwise.nil,λ_ hm=>(nomatch hm)⟩⟩,h2,h3,h4⟩
section
variable{prog:Program}{w:World}{A:Around}{E:Qqq}{s:Shared}{K:Frag}
def ledger(h:Heap)(L d:Addr):Qqz:=(List.range h.objs.size).filterMap λa=>if a=L\/a=d then none else(h.get? a).map λo=>(a,o)
end
end YC
namespace L2
open PySem PySem.Spec PyProof.Rows
theorem AN:∀{vs:List Value} {ns:List Int},IntsAre vs ns->Vals (ns.map V.int) vs
 | _,_,.nil=>.nil
 | _,_,.cons n t h=>.cons ⟨t,rfl⟩ (AN h)
def NQ(H:Hp):Prop:=∀b,H b=none\/∃o xs,H b=some (.oh o (.lst xs))
theorem Ii{P:Program}{w:World}{K:Qqy}{mg mb:Qqx}{CX:FG}{k:Nat}{fa a:Addr}{fd:FuncData}{x:Str}{sp:Sp}{s1:Shared}{vs:List Value}{ns:List Int}
  (KX:K.In s1.heap) (YV:s1.heap.Ns mainGlobals mg) (hb:s1.heap.Ns builtinsNs mb) (hbb:∀x:Str,x≠"__name__"->mb x=bootBuiltins x) (VL:s1.heap.NoLimit) (hg:s1.gens=#[])
  (ha:s1.heap.get? a=some {cls:=.type "list",data:=.seq vs.toArray}) (hi:IntsAre vs ns) (hl:ns.length<=sizeLine) (hr:ke k callerA)
  (F:∀base:Heap,K.In base->base.Ns mainGlobals mg->iq P w K mg base CX k fa fd [x] sp) (RK:∀(s:Shared)(u:Value),BindsTo s fd ⟨[u],[]⟩ [(x,u)])
  (Kw:∀H:Hp,NQ H->h_ K H a (ns.map V.int)->sp [.ref a] H (λv _=>v=.bl true) λ_ _ _=>False)
  (VM:∀H e s',CX [] H s1 (λ_ _ _=>False) e s'->False) :
  codeAny (model P w) callerA (.call (.ref fa) ⟨[.ref a],[]⟩) (λr s'=>r=.ok (.ret (.bool true))/\OldK s1.heap s'.heap/\s'.os=s1.os/\AllBare s'.gens) s1:=by
 have rv:=AN hi
 have VN:=hi.length
 have core:∀H:Hp,NQ H->h_ K H a (ns.map V.int)->qD P w H s1.heap->(∀b,H b≠none->b=a)->(H a≠none->K.lookup a=none)->
   codeAny (model P w) callerA (.call (.ref fa) ⟨[.ref a],[]⟩) (λr s'=>r=.ok (.ret (.bool true))/\OldK s1.heap s'.heap/\s'.os=s1.os/\AllBare s'.gens) s1:=by
  intro H hO hS iC hA hK
  have Gj:∀{b:Addr} {o:Obj},s1.heap.get? b=some o->H b=none->(Bk s1.heap H).get? b=some o:=λe n=>HJ e n
  have RF:∀{b:Addr} {o:Obj} {es:Array DictEntry} {ep:Nat},s1.heap.get? b=some o->o.data=.dict es ep->H b=none:=λ{b o es ep} e d=>by
   cases q:H b with
   | none=>rfl
   | some u=>
    have e':b=a:=hA b (by rw[q];simp)
    subst e'
    rw[ha] at e;cases e
    have d':Data.seq vs.toArray _=Data.dict es ep:=d
    cases d'
  have TR:∀{b:Addr} {m:Qqx},s1.heap.Ns b m->(Bk s1.heap H).Ns b m:=λ{b m} ⟨o,es,ep,e,d,r⟩=>⟨o,es,ep,Gj e (RF e d),d,r⟩
  have YW:K.In (Bk s1.heap H):=λb o e=>Gj (KX b o e) (by
   cases q:H b with
   | none=>rfl
   | some u=>
    have e':b=a:=hA b (by rw[q];simp)
    subst e'
    rw[hK (by rw[q];simp)] at e;cases e)
  have hM:Mod K mg (Bk s1.heap H):=⟨YW,TR YV,⟨mb,TR hb,hbb⟩,let ⟨mc,h1,h2⟩:=VL;⟨mc,TR h1,h2⟩⟩
  have e0:CW P w K mg (Bk s1.heap H) callerA [] s1 H:=⟨rfl,hM,λb o e=>KI e,Nat.le_of_eq (Gv _ _),trivial,λb hb=>absurd (show b∈([]:List Addr) from hb) (by simp),iC,.of_eq hg⟩
  refine acd ((F _ YW (TR YV)).run callerA [] s1 H ⟨[.ref a],[]⟩ [.ref a] [.ref a] _ _ hr e0 (RK s1 (.ref a)) (.cons rfl .nil) (Kw H hO hS)) λr s' h=>?_
  cases r with
  | error e=>exact(VM H e s' h).elim
  | ok fl=>
   cases fl with
   | next=>exact False.elim h
   | brk=>exact False.elim h
   | cont=>exact False.elim h
   | ret u=>
    obtain⟨v,H',os,bare,un,VO,r',q⟩:=h
    have q':v=.bl true:=q
    subst q'
    obtain rfl:u=Value.bool true:=r'
    refine⟨rfl,OldK.of_keep λb o e=>?_,os,bare⟩
    cases q:H b with
    | none=>exact un.keep b o e q (by intro z;exact absurd (show b∈([]:List Addr) from z) (by simp)) (by simp)
    | some u=>
     rcases hO b with z|⟨ob,xs,z⟩
     ·rw[q] at z;cases z
     ·have z2:=un.tV b ob _ z
      obtain⟨e1,_⟩:=iC b _ z
      obtain⟨e2,_⟩:=VO b _ z2
      rw[e] at e1;cases e1
      exact e2
 cases hk:K.lookup a with
 | some o=>
  have e:=KX a o hk
  rw[ha] at e
  cases e
  refine core (λ_=>none) (λ_=>.inl rfl) (.inr ⟨_,vs.toArray,_,hk,rfl,rfl,rfl,by rw[aaa,VN];exact hl,by simpa using rv⟩) (λb u z=>by have z':(none:Option HO)=some u:=z;cases z') (λb z=>absurd rfl z) λz=>absurd rfl z
 | none=>
  refine core (λb=>if b=a then some (.oh {cls:=.type "list",data:=.seq vs.toArray} (.lst (ns.map V.int))) else none) (λb=>?_) (.inl (.inr ⟨{cls:=.type "list",data:=.seq vs.toArray},aag rfl⟩)) (λb u z=>?_) (λb z=>?_) λ_=>hk
  ·by_cases hb:b=a
   ·exact .inr ⟨_,_,aag hb⟩
   ·exact .inl (aac hb)
  ·by_cases hb:b=a
   ·have z':=(aag hb).symm.trans z
    cases z'
    subst hb
    exact⟨ha,by rw[QU];exact hl,vs,_,rv,ha⟩
   ·have z':=(aac hb).symm.trans z
    cases z'
  ·by_cases hb:b=a
   ·exact hb
   ·exact absurd (aac hb) z
theorem K2{l:W.OpenLaw}{n k:Nat}{q:Program}{loose:List Str}{XP:(Qqx)->Heap->Prop}{YP:World->Heap->Prop}{d:DefRec}{K:Params->Qqy}{CX:World->FG}{sp:World->Sp}{x:Str}
  (hn:l.most=some n) (OS:n<=sizeLine) (RI:d.params.defaults=[]) (hr:ke k callerA)
  (hY:∀(w:World)(h:Heap),YP w h->(K w.params).In h)
  (F:∀(w:World)(mg:Qqx)(fa:Addr)(h:Heap),(K w.params).In h->h.Ns mainGlobals mg->mg d.name=some (.ref fa)->
   ∃fd:FuncData,(∀(s:Shared)(u:Value),BindsTo s fd ⟨[u],[]⟩ [(x,u)])/\
    ∀base:Heap,(K w.params).In base->base.Ns mainGlobals mg->iq l.prog w (K w.params) mg base (CX w) k fa fd [x] (sp w))
  (Kw:∀(w:World)(H:Hp)(a:Addr)(ns:List Int),ns.length<=n->NQ H->h_ (K w.params) H a (ns.map V.int)->sp w [.ref a] H (λv _=>v=.bl true) λ_ _ _=>False)
  (VM:∀(w:World)(H:Hp)(s:Shared)(e:Value)(s':Shared),CX w [] H s (λ_ _ _=>False) e s'->False) :
  W.WalkO q loose XP YP l.row.toRowW d [] (λf vs=>PySem.call f vs):=by
 refine YC.C8 hn RI λw s₀ s1 mg mb fa o pm cd doc a vs ns G Y ho hd Bg RJ OW hints hlen hg=>?_
 have KX:=hY w _ Y
 obtain⟨fd,hb,hF⟩:=F w mg fa _ KX G.T.g RJ
 exact Ii KX G.T.g G.T.b G.T.builtins G.T.nolimit hg OW hints (aao hlen OS) hr hF hb (λH hO hS=>Kw w H a ns hlen hO hS) λH e s'=>VM w H s1 e s'
def inClass(s:Stmt)(j:Nat):Stmt:=match s with
 | .ClassDef _ _ _ body _ _ _ _ _ _ _=>body.getD j (.Pass ⟨0,0,0,0⟩)
 | _=>.Pass ⟨0,0,0,0⟩
def oq(s:Stmt):Arguments:=match s with
 | .FunctionDef _ a _ _ _ _ _ _ _ _=>a
 | _=>{posonlyargs:=[],args:=[],vararg:=none,kwonlyargs:=[],kw_defaults:=[],kwarg:=none,defaults:=[]}
def kQ(s:Stmt):List Stmt:=match s with
 | .FunctionDef _ _ b _ _ _ _ _ _ _=>b
 | _=>[]
def f_(s:Stmt):Scope:=match s with
 | .FunctionDef _ _ _ _ _ _ sc _ _ _=>sc
 | _=>{kind:=.function,names:=[],isGenerator:=false,isCoroutine:=false}
abbrev lN:FG:=λ_ _ _ _ _ _=>False
abbrev E0:XK:=λ_ _ _=>False
theorem o6{X:Cx}:Passes lN X E0:=λ_ _ _ _ _ _ _ h=>h.elim
structure xc(K:Qqy)(x qual:Str)(st:Stmt)(f:Addr)(fd:FuncData):Prop where
 ex:∃(oc:Value)(od:Option Addr)(kV doc pm:Value)(an:Option Addr)(jv ct:Value)(HF:Array (Option Value)),
  fd=W.fnOf x qual (oq st) (kQ st) (f_ st) .none kV doc pm an jv ct/\K.lookup f=some ⟨oc,od,.func fd,HF⟩/\W.codeIn K jv qual=true
 kp:W.keepIn K (.ref f)=true
section
variable{P:Program}{w:World}{K:Qqy}{mg:Qqx}{base:Heap}
theorem xc.ok{x qual:Str}{st:Stmt}{f:Addr}{fd:FuncData}{N ps:List Str}{k:Nat}{sp:Sp}(F:xc K x qual st f fd)(S:gs N ps (f_ st))(len:∀vs H Q E,sp vs H Q E->vs.length=ps.length)
  (vI:∀(jv:Value)(A:Around)(outer:List Env)(s:Shared)(H:Hp)(vs:List V)(Q:VK)(E:XK),ke k (A.deeper (envOfC qual (f_ st) s.heap.objs.size f jv))->sp vs H Q E->
   ∃t,Ek (vR lN P w K mg base N qual (f_ st) f jv A outer s H E).Mr (kQ st) t/\t {nx:=λ_ H'=>Q .jb H',rt:=Q} (start N vs) H):iq P w K mg base lN (k+1) f fd ps sp:=by
 obtain⟨oc,od,kV,doc,pm,an,jv,ct,HF,rfl,lk,Bg⟩:=F.ex
 refine Mx lk Bg S len λA outer s H vs Q E hr Kw=>?_
 obtain⟨t,h,q⟩:=vI jv A outer s H vs Q E hr Kw
 exact⟨t,h.Mr,q⟩
theorem xc.binds{x qual:Str}{st:Stmt}{f:Addr}{fd:FuncData}{ps:List Str}(F:xc K x qual st f fd)
  (h:∀(kV doc pm:Value)(an:Option Addr)(jv ct:Value)(us:List Value),us.length=ps.length->bindArgs (W.fnOf x qual (oq st) (kQ st) (f_ st) .none kV doc pm an jv ct) ⟨us,[]⟩=pure (ps.zip us)):Binds K fd ps []:=by
 obtain⟨oc,od,kV,doc,pm,an,jv,ct,HF,rfl,lk,Bg⟩:=F.ex
 exact .all (h kV doc pm an jv ct)
theorem Ij{x qual:Str}{st:Stmt}{f:Addr}{oc:Value}{od an:Option Addr}{HF:Array (Option Value)}{kV doc pm jv ct:Value}(l:K.lookup f=some ⟨oc,od,.func (W.fnOf x qual (oq st) (kQ st) (f_ st) .none kV doc pm an jv ct),HF⟩)
 (c:W.codeIn K jv qual=true) (k:W.keepIn K (.ref f)=true):xc K x qual st f (W.fnOf x qual (oq st) (kQ st) (f_ st) .none kV doc pm an jv ct):=⟨⟨oc,od,kV,doc,pm,an,jv,ct,HF,rfl,l,c⟩,k⟩
end
theorem iS{A:Around}{k:Nat}(hr:ke k A):A.units+1<cLine:=abn (Nat.add_le_add_left (by decide:1<=64) _) hr.units
section
variable{X:Cx}
theorem pv(i:Nat){x:Str}{pos:Pos}(hN:X.N[i]?=some x:=by rfl)(hv:UC X.env.scope x:=by first|exact Or.inl rfl|exact Or.inr (Or.inl rfl)|exact Or.inr (Or.inr rfl))(hd:(x ==("__debug__":Str))=false:=by decide)
 (Bg:(x ==("__classdict__":Str))=false:=by decide):PE X (.Name x pos) (Qo i):=Nj hN hv hd Bg
end
theorem j_{A B:Prop}(h:B):if false=true then A else B:=by
 rw[aac aab]
 exact h
theorem oM{A B:Prop}(h:A):if true=true then A else B:=by
 rw[aag rfl]
 exact h
theorem lb{c A B:Prop}[Decidable c](h1:c->A)(h2:¬c->B):if c then A else B:=by
 by_cases h:c
 ·rw[aag h]
  exact h1 h
 ·rw[aac h]
  exact h2 h
def gg(H H':Hp):Prop:=∀b o,H b=some o->H' b=some o
theorem gg.refl(H:Hp):gg H H:=λ_ _ h=>h
theorem gg.trans{H H1 H2:Hp}(a:gg H H1)(b:gg H1 H2):gg H H2:=λc o h=>b c o (a c o h)
theorem gg.free{H H':Hp}(e:gg H H'){l:Addr}(h:H' l=Option.none):H l=Option.none:=by
 cases q:H l with
 | none=>rfl
 | some o=>
  rw[e l o q] at h
  cases h
theorem gg.seq{K:Qqy}{H H':Hp}{a:Addr}{xs:List V}(e:gg H H')(h:h_ K H a xs):h_ K H' a xs:=by
 rcases h with(h|⟨o,h⟩)|h
 ·exact .inl (.inl (e _ _ h))
 ·exact .inl (.inr ⟨o,e _ _ h⟩)
 ·exact .inr h
section
variable{Z:Type}[DecidableEq Z]
theorem AO{p:Z×V}{r:List (Z×V)}{k:Z}(e:p.1=k):kD (p::r) k=kD r k:=by
 unfold kD
 rw[aco,aac (by simp[e])]
theorem AQ{p:Z×V}{r:List (Z×V)}{k:Z}(e:¬p.1=k):kD (p::r) k=p::kD r k:=by
 unfold kD
 rw[aco,aag (by simp[e])]
end
section
variable{prog:Program}{w:World}{A:Around}{R:Result->Shared->Prop}{s:Shared}
abbrev K3:Qqq:=λ_ _=>False
theorem Bs{elt target iter:Expr}{ifs:List Expr}{scope:Scope}{pos:Pos}{it acc:Value}{env:Env}(I:Nat->Shared->Prop)
  (turn:∀n s,I n s->wpAny (model prog w) A (pyNext it) (λr s1=>match r with
   | none=>R (.ok .next) s1
   | some v=>wpAny (model prog w) A (letOwnedTupleGo target it v) (λ_ YX=>wpAny (model prog w) A (assign target env v) (λ_ s2=>
    wpAny (model prog w) A (forIn ifs true λc r=>if r=true then do let ok <-isTrue c env (eval c env);pure (ForInStep.yield ok) else pure (ForInStep.yield r)) (λok s3=>
     if ok=true then wpAny (model prog w) A (eval elt env) (λx s4=>wpAny (model prog w) A (call (.builtin "list.append") [acc,x]) (λ_ s5=>∃m,m<n/\I m s5) K3 s4) K3 s3
     else ∃m,m<n/\I m s3) K3 s2) K3 YX) K3 s1) K3 s)
  (n:Nat) (h:I n s):codeAny (model prog w) A (.compLoop (.ListComp elt [⟨target,iter,ifs,0⟩] scope pos) 0 it acc env) R s:=by
 refine codeAny_loop rfl I (λn s hI=>?_) n h
 show wpAny _ A ((compTurn (.ListComp elt [⟨target,iter,ifs,0⟩] scope pos) 0 it acc env).onRaise (λx=>do noteFrame x env;theTreesLotGoes x)) _ _ s
 refine wpAny_noted ?_
 rw[compTurn_list]
 refine Ph (wpAny_standAt (Ph (abu (turn n s hI) (λr s1 h1=>?_) λ_ _ h'=>h'.elim)))
 cases r with
 | none=>exact R8 h1
 | some v=>
  refine Ph (abu h1 (λ_ YX L9=>?_) λ_ _ h'=>h'.elim)
  refine Ph (abu L9 (λ_ s2 h2=>Ph (abu h2 (λok s3 h3=>?_) λ_ _ h'=>h'.elim)) λ_ _ h'=>h'.elim)
  cases ok with
  | false=>exact R8 ⟨rfl,h3⟩
  | true=>
   exact Ph (Ph (abu h3 (λx s4 h4=>Ph (abu h4 (λ_ s5 h5=>R8 (R8 ⟨rfl,h5⟩)) λ_ _ h'=>h'.elim)) λ_ _ h'=>h'.elim))
end
noncomputable def jr(cells:List (Str×Addr)):List (Str×NameKind)->List (Str×Addr)->List (Str×Addr)
 | [],cs=>cs
 | (n,k)::r,cs=>jr cells r (if k ==.free then(n,(cells.lookup n).getD 0)::cs else cs)
theorem AR{cells:List (Str×Addr)}:∀{names:List (Str×NameKind)} {cs:List (Str×Addr)} {x:Str} {c:Addr},(∀y∈names,y.2=.free->∃c,cells.lookup y.1=some c)->
  (jr cells names cs).lookup x=some c->cs.lookup x=some c\/cells.lookup x=some c
 | [],_,_,_,_,h=>.inl h
 | (n,k)::r,cs,x,c,hf,h=>by
  rcases AR (λy hy=>hf y (YE _ hy)) (show(jr cells r (if k ==.free then(n,(cells.lookup n).getD 0)::cs else cs)).lookup x=some c from h) with q|q
  ·by_cases hk:(k ==NameKind.free)=true
   ·rw[aag hk] at q
    by_cases hx:(x ==n)=true
    ·rw[ab8,hx] at q
     obtain⟨c',e⟩:=hf (n,k) aae (eq_of_beq hk)
     have e:cells.lookup n=some c':=e
     rw[e] at q
     have q:some c'=some c:=q
     rw[eq_of_beq hx,e,q]
     exact .inr rfl
    ·rw[ab8,abF.mpr hx] at q
     exact .inl q
   ·rw[aac hk] at q
    exact .inl q
  ·exact .inr q
theorem yE{cells:List (Str×Addr)}:∀{names:List (Str×NameKind)} {cs:List (Str×Addr)} {x:Str},(∃c,cs.lookup x=some c)->∃c,(jr cells names cs).lookup x=some c
 | [],_,_,h=>h
 | (n,k)::r,cs,x,h=>by
  refine yE (names:=r) ?_
  by_cases hk:(k ==NameKind.free)=true
  ·rw[aag hk,ab8]
   cases x ==n with
   | true=>exact⟨_,rfl⟩
   | false=>exact h
  ·rw[aac hk];exact h
theorem vS{cells:List (Str×Addr)}:∀{names:List (Str×NameKind)} {cs:List (Str×Addr)} {x:Str},(x,NameKind.free)∈names->∃c,(jr cells names cs).lookup x=some c
 | [],_,_,h=>nomatch h
 | (n,k)::r,cs,x,h=>by
  rcases V9.mp h with e|h2
  ·cases e
   refine yE (names:=r) ⟨(cells.lookup n).getD 0,?_⟩
   rw[aag (by rfl),ab8,beq_self_eq_true]
  ·exact vS (names:=r) h2
theorem tq{scope:Scope}{env:Env}(hf:∀y∈scope.names,y.2=.free->∃c,env.cells.lookup y.1=some c):closureFor scope env=pure (jr env.cells scope.names []):=by
 have key:∀(names:List (Str×NameKind))(cs:List (Str×Addr)),(∀y∈names,y.2=.free->∃c,env.cells.lookup y.1=some c)->
   (forIn names cs λ(x:Str×NameKind) (r:List (Str×Addr))=>(match x with
    | (name,kind)=>if(kind ==NameKind.free)=true then(do let a <-cellOf env name;pure (ForInStep.yield ((name,a)::r))) else pure (ForInStep.yield r):Sem (ForInStep (List (Str×Addr)))))=(pure (jr env.cells names cs):Sem (List (Str×Addr))):=by
  intro names
  induction names with
  | nil=>intro cs _;rfl
  | cons y r ih=>
   intro cs h
   obtain⟨n,k⟩:=y
   rw[List.forIn_cons]
   by_cases hk:(k ==NameKind.free)=true
   ·obtain⟨c,e⟩:=h (n,k) aae (eq_of_beq hk)
    have e:env.cells.lookup n=some c:=e
    have ec:cellOf env n=pure c:=by unfold cellOf;rw[e]
    simp only [hk,if_true,ec,pure_bind]
    rw[ih _ λy hy=>h y (YE _ hy)]
    simp only [jr,hk,if_true,e,Option.getD_some]
   ·simp only [hk,ab3,pure_bind,aaV]
    rw[ih _ λy hy=>h y (YE _ hy)]
    simp only [jr,hk,ab3,aaV]
 have q:=key scope.names [] hf
 simp only [closureFor]
 first
  | (rw[q];rfl)
  | (simp only [q,pure_bind])
  | exact(aaQ (λt=>t >>= pure) q).trans (pure_bind _ _)
theorem qF{f:Str->NameKind->NameKind}:∀{names:List (Str×NameKind)} {x:Str},(names.map λy=>(y.1,f y.1 y.2)).lookup x=(names.lookup x).map (f x)
 | [],_=>rfl
 | (n,k)::r,x=>by
  show List.lookup x ((n,f n k)::_)=_
  rw[ab8,ab8]
  cases h:x ==n with
  | true=>rw[eq_of_beq h];rfl
  | false=>exact qF (names:=r)
theorem lx{scope:Scope}{env:Env}{x:Str}:(relabel scope env).names.lookup x=(scope.names.lookup x).map λk=>if(k ==.free&&env.scope.kind ==.function&&env.kindOf x ==some .cell)=true then .cell else k:=by
 have e:(relabel scope env).names=scope.names.map λy=>(y.1,(λ(n:Str) (k:NameKind)=>if(k ==.free&&env.scope.kind ==.function&&env.kindOf n ==some .cell)=true then NameKind.cell else k) y.1 y.2):=by
  show(scope.names.map _)=_
  refine ab5 λy _=>?_
  obtain⟨n,k⟩:=y
  show(if(k ==.free&&env.scope.kind ==.function&&env.kindOf n ==some .cell)=true then(n,NameKind.cell) else(n,k))=(n,if(k ==.free&&env.scope.kind ==.function&&env.kindOf n ==some .cell)=true then NameKind.cell else k)
  split<;>rfl
 rw[e]
 exact qF (f:=λ(n:Str) (k:NameKind)=>if(k ==.free&&env.scope.kind ==.function&&env.kindOf n ==some .cell)=true then NameKind.cell else k)
def blank:List Nat->St->St
 | [],Z=>Z
 | i::r,Z=>blank r (Z.set i none)
theorem AS:∀{is:List Nat} {Z:St},(blank is Z).length=Z.length
 | [],_=>rfl
 | i::r,Z=>by
  show(blank r (Z.set i none)).length=_
  rw[AS,ace]
theorem Bt{Z:St}{i j:Nat}{v:V}(h:(Z.set i none)[j]?=some (some v)):Z[j]?=some (some v)/\j≠i:=by
 by_cases e:j=i
 ·subst e
  by_cases hl:j<Z.length
  ·rw[aa6 hl] at h;cases h
  ·rw[List.getElem?_eq_none_iff.mpr (by rw[ace];omega)] at h;cases h
 ·rw[abc (abE e)] at h
  exact⟨h,e⟩
theorem AU:∀{is:List Nat} {Z:St} {j:Nat} {v:V},(blank is Z)[j]?=some (some v)->Z[j]?=some (some v)/\j∉is
 | [],_,_,_,h=>⟨h,by simp⟩
 | i::r,Z,j,v,h=>by
  obtain⟨h1,h2⟩:=AU (is:=r) (Z:=Z.set i none) h
  obtain⟨h3,h4⟩:=Bt h1
  exact⟨h3,λm=>(V9.mp m).elim h4 h2⟩
def GL(N:List Str)(out:List (Str×NameKind))(is:List Nat)(names:List (Str×NameKind)):Bool:=
 (names.all λy=>y.2 != .cell&&(y.2 != .free||out.lookup y.1 ==some .cell||out.lookup y.1 ==some .free)&&(y.2 != .local||names.lookup y.1 ==some .local))&&
 (N.zipIdx.all λp=>names.lookup p.1 != some .local||is.contains p.2)
structure Bu(N:List Str)(out:List (Str×NameKind))(is:List Nat)(names:List (Str×NameKind)):Prop where
 EE:∀y∈names,y.2≠.cell
 free:∀y∈names,y.2=.free->out.lookup y.1=some .cell\/out.lookup y.1=some .free
 loc:∀y∈names,y.2=.local->names.lookup y.1=some .local
 own:∀(i:Nat)(x:Str),N[i]?=some x->names.lookup x=some .local->i∈is
theorem Bu.of{N:List Str}{out:List (Str×NameKind)}{is:List Nat}{names:List (Str×NameKind)}(h:GL N out is names=true):Bu N out is names:=by
 unfold GL at h
 rw[aaW] at h
 obtain⟨h1,h2⟩:=h
 have a:=abO.mp h1
 have b:=abO.mp h2
 refine⟨λy hy e=>?_,λy hy e=>?_,λy hy e=>?_,λi x hi e=>?_⟩
 ·have q:=a y hy
  rw[e] at q
  simp at q
 ·have q:=a y hy
  simp only [e,aaW,acu,bne_self_eq_false,aaV,false_or,abN] at q
  rcases q.1.2 with z|z
  ·exact .inl z
  ·exact .inr z
 ·have q:=a y hy
  simp only [e,aaW,acu,bne_self_eq_false,aaV,false_or,abN] at q
  exact q.2
 ·have hm:(x,i)∈N.zipIdx:=by
   rw[aaT]
   exact⟨i,by rw[List.getElem?_zipIdx,hi];simp⟩
  have q:=b (x,i) hm
  simp only [e,acu,bne_self_eq_false,aaV,false_or] at q
  exact List.contains_iff_mem.mp q
noncomputable def Cx.block(X:Cx)(scope:Scope)(cl:List (Str×Addr))(C:Addr)(s:Shared)(H:Hp)(ex:List Addr):Cx:=
 {X with env:=compEnvC scope cl C X.env,s₀:=s,H₀:=H,outer:=X.stack,ex:=ex,fn:=λ_=>false,pn:=[],xe:=K3}
section
variable{X:Cx}{b_:Qqz}{Z:St}{H:Hp}{s:Shared}{scope:Scope}{is:List Nat}{ex:List Addr}{C:Addr}
theorem yF(I:Inv X b_ Z H s)(hs:Bu X.N X.env.scope.names is scope.names):∀y∈scope.names,y.2=.free->∃c,X.env.cells.lookup y.1=some c:=λy hy e=>I.ok.has y.1 (hs.free y hy e)
theorem mE(I:Inv X b_ Z H s)(hs:Bu X.N X.env.scope.names is scope.names){x:Str}{c:Addr}(h:(jr X.env.cells scope.names []).lookup x=some c):X.env.cells.lookup x=some c:=
 (AR (yF I hs) h).resolve_left λz=>nomatch z
theorem Ik(I:Inv X b_ Z H s)(hs:Bu X.N X.env.scope.names is scope.names)(hk:scope.kind=.function)(hC:s.heap.objs.size<=C)(hf:∀b∈ex,tX X b_ H b)(ho:∀b∈ex,∃o,s.heap.get? b=some o) :
  (X.block scope (jr X.env.cells scope.names []) C s H ex).Ok where
 mod:=I.ok.mod
 kind:=hk
 glob:=I.ok.glob
 blt:=I.ok.blt
 above:=hC
 inj:=λx y c h1 h2=>I.ok.inj x y c (mE I hs h1) (mE I hs h2)
 has:=λx hx=>by
  have hx:(relabel scope X.env).names.lookup x=some .cell\/(relabel scope X.env).names.lookup x=some .free:=hx
  rw[lx] at hx
  cases e:scope.names.lookup x with
  | none=>
   rw[e] at hx
   rcases hx with z|z<;>cases z
  | some k=>
   have hm:(x,k)∈scope.names:=abx e
   have hk:k=.free:=by
    rw[e] at hx
    cases k with
    | free=>rfl
    | cell=>exact absurd rfl (hs.EE _ hm)
    | _=>rcases hx with z|z<;>simp at z
   subst hk
   exact vS hm
 Pz:=λ_ _ h=>Bool.noConfusion h
 hd:=I.ok.hd
 frames:=I.ok.frames
 Ql:=.inl rfl
 UD:=λb hb=>by
  obtain⟨o,e⟩:=ho b hb
  exact⟨aaD (aaw (aak e) hC),λx c h=>(hf b hb).2.2.2.2.1 x c (mE I hs h)⟩
 bs:=I.bs
 Ko:=aao I.ok.Ko I.sz
 sR:=λb o e hb=>by
  rcases(hf b hb).2.2.2.1 with z|z
  ·exact I.ok.sR b o e z
  ·exact absurd (aaw (aak (I.ok.bs b o e).1) z) (abj _)
 HK:=λb hb hm=>by
  rcases V9.mp (I.vL b hm) with z|z
  ·exact(hf b hb).2.1 z
  ·exact(hf b hb).2.2.1 z
 tW:=I.stack
 Kq:=I.Bl
theorem GN{h':Heap}{t':Nat}{pl:Qqz}(I:Inv X b_ Z H s)(hs:Bu X.N X.env.scope.names is scope.names)(hk:scope.kind=.function)(hC:s.heap.objs.size<=C)(hf:∀b∈ex,tX X b_ H b)(ho:∀b∈ex,∃o,s.heap.get? b=some o)
  (old:∀b o,s.heap.get? b=some o->h'.get? b=some o) {m:Qqx} (hn:h'.Ns C m)
  (hp:∀p∈pl,h'.get? p.1=some p.2/\s.heap.objs.size<=p.1/\p.1≠C/\∀v,p.2.data≠.cell v) :
  Inv (X.block scope (jr X.env.cells scope.names []) C s H ex) pl (blank is Z) H {s with heap:=h',toks:=t'} where
 ok:=Ik I hs hk hC hf ho
 os:=rfl
 bare:=I.bare
 base:=Un.kept old
 loc:=⟨m,hn,λi x v h1 h2 h3=>by
  have h3:(relabel scope X.env).names.lookup x=some .local\/(relabel scope X.env).names.lookup x=some .cell\/(relabel scope X.env).names.lookup x=some .free:=h3
  obtain⟨h2,hi⟩:=AU h2
  have h1:X.N[i]?=some x:=h1
  cases e:scope.names.lookup x with
  | none=>
   rw[lx,e] at h3
   rcases h3 with z|z|z<;>cases z
  | some k=>
   have hm:(x,k)∈scope.names:=abx e
   have hk:k=.free:=by
    rw[lx,e] at h3
    cases k with
    | free=>rfl
    | cell=>exact absurd rfl (hs.EE _ hm)
    | «local»=>exact absurd (hs.own i x h1 e) hi
    | _=>rcases h3 with z|z|z<;>simp at z
   subst hk
   have hv:X.env.scope.names.lookup x=some .cell\/X.env.scope.names.lookup x=some .free:=hs.free _ hm rfl
   obtain⟨m0,_,hl⟩:=I.loc
   obtain⟨u,r,q⟩:=hl i x v h1 h2 (.inr hv)
   refine⟨u,r,.inr ⟨?_,?_⟩⟩
   ·show(relabel scope X.env).names.lookup x=some .cell\/(relabel scope X.env).names.lookup x=some .free
    rw[lx,e]
    show some (if _ then NameKind.cell else NameKind.free)=_\/some (if _ then NameKind.cell else NameKind.free)=_
    split
    ·exact .inl rfl
    ·exact .inr rfl
   ·rcases q with⟨z,_⟩|⟨_,c,ec,cc⟩
    ·have z:X.env.scope.names.lookup x=some .local:=z
     rcases hv with hv|hv<;>rw[hv] at z<;>cases z
    ·obtain⟨c',e'⟩:=vS (cells:=X.env.cells) (cs:=[]) hm
     have e2:=mE I hs e'
     rw[ec] at e2
     cases e2
     obtain⟨o,ho,hd⟩:=cc
     exact⟨c,e',o,old _ _ ho,hd⟩⟩
 cell:=λx c h=>by
  obtain⟨v,o,ho,hd⟩:=I.cell x c (mE I hs h)
  exact⟨v,o,old _ _ ho,hd⟩
 free:=I.iC.fresh hC
 oj:=λx c h=>I.oj x c (mE I hs h)
 pin:=λp VP=>by
  obtain⟨h1,h2,h3,h4⟩:=hp p (by simpa[Cx.block] using VP)
  refine⟨h1,I.iC.fresh h2,h3,λhm=>?_,h4⟩
  rcases V9.mp (I.vL p.1 hm) with z|z
  ·exact absurd (aaw I.lt (by rw[<-z];exact h2)) (abj _)
  ·exact I.Qm h2 z
 iC:=I.iC.kept old
 len:=by rw[AS];exact I.len
end
theorem kR{X:Cx}{scope:Scope}{cl:List (Str×Addr)}{C:Addr}{s:Shared}{H:Hp}{ex:List Addr}:(X.block scope cl C s H ex).K=X.K:=rfl
theorem PE.eqv{X:Cx}{e:Expr}{t t':TE}(h:PE X e t')(q:t'=t):PE X e t:=q▸h
def NR(X:Cx)(ifs:List Expr)(t:TT):Prop:=
 ∀(b_:Qqz)(s:Shared)(Z:St)(H:Hp)(Q:Bool->Hp->Prop),Inv X b_ Z H s->t Z H Q->
  wpAny (model X.prog X.w) X.A (forIn ifs true λc r=>if r=true then do let ok <-isTrue c X.env (eval c X.env);pure (ForInStep.yield ok) else pure (ForInStep.yield r)) (TP X b_ Z Q) X.xe s
def U8:TT:=λ_ H Q=>Q true H
theorem oN{X:Cx}:NR X [] U8:=λ_ _ _ H _ I h=>wpAny_tests_nil ⟨H,I,h⟩
theorem oO{X:Cx}{c:Expr}{t:TT}(h:PT X c t):NR X [c] t:=λb_ s Z H Q I hw=>wpAny_tests_one (h b_ s Z H Q I hw)
def GO(g:TG)(tt:TT)(te:TE)(J:It)(Q:List V->Hp->Prop)(Z:St)(H:Hp):Prop:=
 ∃W:Nat->Nat->List V->St->Hp->Prop,(∃m,W 0 m [] Z H)/\∀i m ys Z H,W i m ys Z H->
  (J.stop i H/\ys.length<=sizeLine/\Q ys H)\/
  (J.go i H/\ys.length<=sizeLine/\∃N:List V->St->Hp->Prop,(∀PZ Z' H',N PZ Z' H'->∃m',m'<m/\W (i+1) m' PZ Z' H')/\
   ∀x H',J.Kr i H x H'->g x Z H' λZ2 H2=>tt Z2 H2 λb H3=>if b=true then te Z2 H3 λv H4=>N (ys++[v]) Z2 H4 else N ys Z2 H3)
def Tx(is:List Nat)(wi:TI)(g:TG)(tt:TT)(te:TE):TE:=λZ H Q=>wi Z H λJ H1=>GO g tt te J (λys H2=>∀p,H2 p=none->Q (.ref p) (upd H2 p (.lst ys))) (blank is Z) H1
section
variable{P:Program}{w:World}
theorem qD.QL{H:Hp}{h:Heap}{a:Addr}{o:HO}(x:qD P w H h)(hn:H a=none)(new:iR P w (upd H a o) h a o):qD P w (upd H a o) h:=λb u q=>by
 by_cases hb:b=a
 ·subst hb;rw[a_] at q;cases q;exact new
 ·rw[de hb] at q
  exact(x b u q).qU (λ_ _ _ r=>r) (λc r=>by rw[de (gc r hn)];exact r) λc xs r=>by rw[de (gc r hn)];exact r
end
abbrev Bv(ys:List Value)(n:Nat):Obj:={cls:=.type "list",data:=.seq ys.toArray n}
section
variable{X:Cx}{b_:Qqz}{Z:St}{H:Hp}{s:Shared}{scope:Scope}{is:List Nat}
theorem AV{E:Qqq}{elt tg iter:Expr}{ifs:List Expr}{pos:Pos}{it:Addr}{fp:List Addr}{tn:Nat->Heap->Prop}{J:It}{g:TG}{tt:TT}{te:TE}{Fin:List V->Hp->Prop}{RR:Value->Addr->Result->Shared->Prop}
  (I:Inv X b_ Z H s) (hc:X.calm=true) (hs:Bu X.N X.env.scope.names is scope.names) (hk:scope.kind=.function)
  (hg:∀C s H ex,PG (X.block scope (jr X.env.cells scope.names []) C s H ex) tg g) (ht:∀C s H ex,NR (X.block scope (jr X.env.cells scope.names []) C s H ex) ifs tt)
  (he:∀C s H ex,PE (X.block scope (jr X.env.cells scope.names []) C s H ex) elt te)
  (T:Turn X.prog X.w X.K tg J fp it tn) (st:tn 0 s.heap) (hf:∀b∈fp,tX X b_ H b) (h:GO g tt te J Fin (blank is Z) H)
  (hRR:∀(D C:Addr)(ys:List V)(ib:List Value)(n:Nat)(H':Hp)(s':Shared)(m:Qqx),s.heap.objs.size<=D->s.heap.objs.size<=C->D≠C->s'.heap.Ns C m->s'.heap.get? D=some (Bv ib n)->Vals ys ib->ys.length<=sizeLine->
   H' D=none->H' C=none->s'.os=s.os->AllBare s'.gens->Un (tm X.stack) fp H H' s.heap s'.heap->qD X.prog X.w H' s'.heap->Fin ys H'->RR (.ref D) C (.ok .next) s') :
  wpAny (model X.prog X.w) X.A (newList []) (λacc s3=>wpAny (model X.prog X.w) X.A (newFunctionEnv scope X.env.globals (jr X.env.cells scope.names []) [] X.env.qual none .none (some X.env)) (λRL s4=>
   codeAny (model X.prog X.w) X.A (.compStart (.ListComp elt [⟨tg,iter,ifs,0⟩] scope pos) 0 (.ref it) acc {RL with scope:=relabel scope X.env}) (RR acc RL.locals) s4) E s3) E s:=by
 refine aa_ (wpAny_newFunctionEnv hs.EE (by intro y hy;simp at hy) (λh1 OX L_=>?_) hk)
 dsimp only at OX L_ ⊢
 generalize VQ:s.heap.push {cls:=.type "list",dict:=none,data:=.seq ([]:List Value).toArray}=H2 at OX L_ ⊢
 have hC:H2.objs.size=s.heap.objs.size+1:=by rw[<-VQ,aby]
 have Ma:s.heap.objs.size≠H2.objs.size:=by rw[hC];exact aaD (abA _)
 have RM:s.heap.objs.size<=H2.objs.size:=by rw[hC];exact ab2 _
 have below:∀b,b<s.heap.objs.size->b≠H2.objs.size/\b≠s.heap.objs.size:=λb hb=>⟨by rw[hC];exact aaD (ack hb),aaD hb⟩
 have old:∀b o,s.heap.get? b=some o->h1.get? b=some o:=λb o e=>L_.extBut b o (below b (aak e)).1 (Ve _ (VQ▸Ve _ e))
 have tf:h1.get? s.heap.objs.size=some (Bv [] 0):=L_.extBut _ _ Ma (Ve _ (VQ▸YK _ rfl))
 have VR:∀b∈fp,∃o,s.heap.get? b=some o:=λb hb=>let ⟨o,e,_⟩:=T.obj 0 _ st b hb;⟨o,e⟩
 have YY:∀b∈fp,b≠s.heap.objs.size:=λb hb=>let ⟨o,e⟩:=VR b hb;(below b (aak e)).2
 have hfC:∀b∈fp,b≠H2.objs.size:=λb hb=>let ⟨o,e⟩:=VR b hb;(below b (aak e)).1
 generalize hD:s.heap.objs.size=D at *
 generalize hCC:H2.objs.size=C at *
 have RN:∀x c,(jr X.env.cells scope.names []).lookup x=some c->c≠D:=λx c e z=>by
  obtain⟨v,q⟩:=I.cell x c (mE I hs e)
  exact absurd q.lt (by rw[z,hD];exact abj _)
 let XB:=X.block scope (jr X.env.cells scope.names []) C s H fp
 have I1:Inv XB [(D,Bv [] 0)] (blank is Z) H {s with heap:=h1,toks:=s.toks+([]:List (Str×Value)).length}:=
  GN I hs hk (by rw[hD];exact RM) hf VR old OX λp hp=>by
   rw[Sd.mp hp]
   exact⟨tf,Nat.le_of_eq hD,Ma,λv z=>nomatch z⟩
 have VS:∀{pl:Qqz} {H':Hp},(∀p∈pl,p.1=D)->(∀b∈fp,H' b=none)->∀b∈fp,tX XB pl H' b:=λ{pl H'} qP hn b hb=>
  ⟨hn b hb,hfC b hb,λhm=>by
   rcases V9.mp (I.vL b hm) with z|z
   ·exact(hf b hb).2.1 z
   ·exact(hf b hb).2.2.1 z,.inl hb,λx c e=>(hf b hb).2.2.2.2.1 x c (mE I hs e),λp hp=>by
   have hp:p∈pl:=by simpa[XB,Cx.block] using hp
   rw[qP p hp]
   exact abE (YY b hb)⟩
 obtain⟨W,⟨m0,w0⟩,turn⟩:=h
 have Fq:tn 0 h1:=T.keep _ _ _ st λb _ o e=>old b o e
 have loop:codeAny (model X.prog X.w) X.A (.compLoop (.ListComp elt [⟨tg,iter,ifs,0⟩] scope pos) 0 (.ref it) (.ref D) (compEnvC scope (jr X.env.cells scope.names []) C X.env)) (RR (.ref D) C) {s with heap:=h1,toks:=s.toks+([]:List (Str×Value)).length}:=by
  refine Bs (λk s'=>∃i ys ib n Z' H',Inv XB [(D,Bv ib n)] Z' H' s'/\Vals ys ib/\tn i s'.heap/\(∀b∈fp,H' b=none)/\W i k ys Z' H') ?_ m0 ⟨0,[],[],0,_,_,I1,.nil,Fq,λb hb=>(hf b hb).1,w0⟩
  rintro k s3 ⟨i,ys,ib,n,Z3,H3,I3,vs,Mt,RC,w3⟩
  have qP:∀p∈[(D,Bv ib n)],p.1=D:=λp hp=>by rw[Sd.mp hp]
  rcases turn i k ys Z3 H3 w3 with⟨stop,hz,qn⟩|⟨go,hz,N,hN,step⟩
  ·refine iX (T.done XB rfl rfl rfl hc i _ s3 Z3 H3 K3 I3 (VS qP RC) Mt stop) λr s4 iG=>?_
   obtain⟨hr,I4⟩:=iG
   subst hr
   obtain⟨m',PY,_⟩:=I4.loc
   have pD:=I4.pin (D,Bv ib n) (by simp[XB,Cx.block])
   exact hRR D C ys ib n H3 s4 m' (Vb _) RM Ma PY pD.1 vs hz pD.2.1 I4.free I4.os I4.bare I4.base I4.iC qn
  ·refine iX (T.item XB rfl rfl rfl hc i _ s3 Z3 H3 K3 I3 (VS qP RC) Mt go) λr s4 iG=>?_
   obtain⟨u,hr,h4⟩:=iG
   subst hr
   refine iX h4 λ_ s5 iG=>?_
   obtain⟨x,H5,I5,r5,y5,OQ,VC⟩:=iG
   have VD:=I5.pinned (VS qP VC) (T.obj _ _ OQ)
   refine iX (hg C s H fp _ s5 Z3 H5 x u _ VD r5 (step x H5 y5)) λ_ s6 iG=>?_
   obtain⟨Z6,H6,I6,q6⟩:=iG
   have Bh:∀{Z7:St} {H7:Hp} {s7:Shared},Inv XB ([(D,Bv ib n)]++yx fp s5.heap) Z7 H7 s7->tn (i+1) s7.heap/\∀b∈fp,H7 b=none:=λ{Z7 H7 s7} I7=>
    ⟨T.keep _ _ _ OQ λb hb o e=>(I7.pin (b,o) (aaG _ (aaG _ (pU hb e)))).1,λb hb=>by
     obtain⟨o,e,d⟩:=T.obj _ _ OQ b hb
     exact(I7.pin (b,o) (aaG _ (aaG _ (pU hb e)))).2.1⟩
   refine iX (ht C s H fp _ s6 Z6 H6 _ I6 q6) λok s7 iG=>?_
   obtain⟨H7,I7,q7⟩:=iG
   cases ok with
   | false=>
    rw[aac aab] at q7 ⊢
    obtain⟨m',hm,w7⟩:=hN _ _ _ q7
    exact⟨m',hm,i+1,ys,ib,n,Z6,H7,I7.uC,vs,(Bh I7).1,(Bh I7).2,w7⟩
   | true=>
    rw[aag rfl] at q7 ⊢
    refine iX (he C s H fp _ s7 Z6 H7 _ I7 q7) λy s8 iG=>?_
    obtain⟨v,H8,I8,r8,n8⟩:=iG
    obtain⟨m',hm,w8⟩:=hN _ _ _ n8
    obtain⟨st8,fr8⟩:=Bh I8
    have pD:=I8.pin (D,Bv ib n) (by simp)
    have hl:=vs.length
    refine append_at (hsz:=by show ib.toArray.size<=sizeLine;rw[aaa,<-hl];exact hz) pD.1 λh9 YZ e9=>?_
    have I9:Inv XB [] Z6 H8 {s8 with heap:=h9}:=by
     have J8:Inv XB [] Z6 H8 s8:=I8.yd λp hp=>nomatch hp
     exact J8.turned (t':=s8.toks) (it:=D) (λb o hb e=>YZ.extBut b o hb e) pD.2.1 Ma (.inr (Nat.le_of_eq hD)) (λx c e=>RN x c e) λp hp=>by simp[XB,Cx.block] at hp
    refine⟨m',hm,i+1,ys++[v],ib++[y],n+1,Z6,H8,I9.yd λp hp=>?_,vs.append (.cons r8 .nil),T.keep _ _ _ st8 λb hb o e=>YZ.extBut b o (YY b hb) e,fr8,w8⟩
    rw[Sd.mp hp]
    refine⟨?_,pD.2.1,Ma,λhm=>?_,λv z=>nomatch z⟩
    ·rw[e9]
     show some _=some _
     rw[List.push_toArray]
    ·exact pD.2.2.2.1 hm
 exact codeAny_compStart_list loop (T.self _ 0 _ _ _ Fq loop)
variable{elt tg iter:Expr}{ifs:List Expr}{pos JX py:Pos}{wi:TI}{g:TG}{tt:TT}{te:TE}
theorem xf{D:Addr}{ys:List V}{ib:List Value}{n:Nat}{H':Hp}{s':Shared}{fp:List Addr}(I:Inv X b_ Z H s)(hf:∀b∈fp,tX X b_ H b)(hD:s.heap.objs.size<=D)(e:s'.heap.get? D=some (Bv ib n))(vs:Vals ys ib)(hz:ys.length<=sizeLine)
  (nD:H' D=none) (os:s'.os=s.os) (bare:AllBare s'.gens) (un:Un (tm X.stack) fp H H' s.heap s'.heap) (iC:qD X.prog X.w H' s'.heap):Inv X b_ Z (upd H' D (.lst ys)) s':=by
 have neD:∀b o,s.heap.get? b=some o->b≠D:=λb o q=>aaD (aaw (aak q) hD)
 refine I.Qn (ch:=fp) os ⟨un.keep,un.slot,λb o q nn hx=>by rw[de (neD b o q)];exact un.free b o q nn hx,un.there,λb xs q=>?_,λb o u q=>?_,λb ps q=>?_⟩ (iC.QL nD ⟨hz,ib,n,vs,e⟩) bare λb hb=>?_
 ·have q':=un.pT b xs q
  rw[de (gc q' nD)];exact q'
 ·have q':=un.tV b o u q
  rw[de (gc q' nD)];exact q'
 ·obtain⟨more,q'⟩:=un.vK b ps q
  exact⟨more,by rw[de (gc q' nD)];exact q'⟩
 ·obtain⟨f0,f1,f2,f3,f4,f5⟩:=hf b hb
  exact⟨f3,f1,f4,f5⟩
theorem yG{C:Addr}{h':Heap}{s0:Shared}(I:Inv X b_ Z H s)(hC:s0.heap.objs.size<=C)(nC:H C=none)(MR:Heap.SameBut C s.heap h')(I0:∃Z0 H0,Inv X b_ Z0 H0 s0):Inv X b_ Z H {s with heap:=h'}:=by
 obtain⟨Z0,H0,I0⟩:=I0
 obtain⟨_,f1,_,f3,f4,f5⟩:=I0.xS (H':=λ_=>none) hC rfl
 exact I.turned (t':=s.toks) (λb o hb e=>MR.extBut b o hb e) nC f1 f3 f4 f5
theorem tw(N:List Str)(out:List (Str×NameKind))(is:List Nat)(hc:X.calm=true)(hi:PI X tg iter wi)(hk:scope.kind=.function)(hs:GL N out is scope.names=true)
  (hg:∀C s H ex,PG (X.block scope (jr X.env.cells scope.names []) C s H ex) tg g) (ht:∀C s H ex,NR (X.block scope (jr X.env.cells scope.names []) C s H ex) ifs tt)
  (he:∀C s H ex,∃t,PE (X.block scope (jr X.env.cells scope.names []) C s H ex) elt t/\t=te) (Hz:∀x,foldedSetIterable iter X.env x=pure x:=by intro _;rfl) (eN:X.N=N:=by rfl) (eo:X.env.scope.names=out:=by rfl) :
  PE X (.ListComp elt [⟨tg,iter,ifs,0⟩] scope pos) (Tx is wi g tt te):=by
 intro b_ s Z H Q I h
 subst eN eo
 have S:=Bu.of hs
 rw[eval_ListComp]
 refine wpAny_comprehension_free (use:=none) rfl Hz (tq (yF I S)) hk S.loc (iX (hi b_ s Z H _ I h) λv s1 h1=>iX h1 λTM s2 h2=>?_)
 obtain⟨it,fp,tn,J,H2,rfl,I2,T,zI,f2,h2⟩:=h2
 refine AV (RR:=λacc C=>compPost (model X.prog X.w) X.A X.xe none (EP X b_ Z Q) acc C) I2 hc S hk hg ht (λC s H ex=>let ⟨_,h,e⟩:=he C s H ex;PE.eqv h e) T zI f2 h2 ?_
 intro D C ys ib n H' s' m hD hC Ma hn e vs hz nD nC os bare un iC q
 have J1:Inv X b_ Z (upd H' D (.lst ys)) s':=xf I2 f2 hD e vs hz nD os bare un iC
 refine⟨m,hn,λh' MR=>⟨.ref D,_,yG J1 hC (by rw[de (abE Ma)];exact nC) MR ⟨_,_,I2⟩,rfl,q D nD⟩⟩
theorem MB{y:Str}{j:Nat}(N:List Str)(out:List (Str×NameKind))(is:List Nat)(hN:X.N.Nodup)(hj:X.N[j]?=some y)(hy:X.env.scope.names.lookup y=some .local)(hc:X.calm=true)(hi:PI X tg iter wi)(hk:scope.kind=.function)(hs:GL N out is scope.names=true)
  (hg:∀C s H ex,PG (X.block scope (jr X.env.cells scope.names []) C s H ex) tg g) (ht:∀C s H ex,NR (X.block scope (jr X.env.cells scope.names []) C s H ex) ifs tt)
  (he:∀C s H ex,∃t,PE (X.block scope (jr X.env.cells scope.names []) C s H ex) elt t/\t=te)
  (VT:swapsWith (.ListComp elt [⟨tg,iter,ifs,0⟩] scope pos) (some (.Name y py)) JX.line X.env=pure true:=by rfl) (Hz:∀x,foldedSetIterable iter X.env x=pure x:=by intro _;rfl) (eN:X.N=N:=by rfl) (eo:X.env.scope.names=out:=by rfl) :
  PS X (.Assign [.Name y py] (.ListComp elt [⟨tg,iter,ifs,0⟩] scope pos) JX) (HN (Tx is wi g tt te) (o3 j)):=by
 intro b_ s Z H Dn I h
 subst eN eo
 have S:=Bu.of hs
 rw[exec_Assign_Name_used _ _ _ _ VT]
 refine Ph (wpAny_standAt (Ph ?_))
 show wpAny _ _ (do let _ <-comprehension (.ListComp elt [⟨tg,iter,ifs,0⟩] scope pos) scope X.env _ (newList []) false (eval iter X.env) (some (assign (.Name y py) X.env))) _ _ s
 refine Ph (abu (wpAny_comprehension_free (use:=some (assign (.Name y py) X.env)) (Q:=λ_ s'=>SP X b_ Dn .next s') rfl Hz (tq (yF I S)) hk S.loc
  (iX (hi b_ s Z H _ I h) λv s1 h1=>iX h1 λTM s2 h2=>?_)) (λ_ s' hq=>R8 (R8 hq)) λ_ _ e=>e)
 obtain⟨it,fp,tn,J,H2,rfl,I2,T,zI,f2,h2⟩:=h2
 refine AV (RR:=λacc C=>compPost (model X.prog X.w) X.A X.xe (some (assign (.Name y py) X.env)) (λ_ s'=>SP X b_ Dn .next s') acc C) I2 hc S hk hg ht (λC s H ex=>let ⟨_,h,e⟩:=he C s H ex;PE.eqv h e) T zI f2 h2 ?_
 intro D C ys ib n H' s' m hD hC Ma hn e vs hz nD nC os bare un iC q
 have J1:Inv X b_ Z (upd H' D (.lst ys)) s':=xf I2 f2 hD e vs hz nD os bare un iC
 show wpAny _ _ (assign (.Name y py) X.env (.ref D)) _ _ _
 refine wpAny_assign_Name (AD J1 hN hj (.inl hy) (v:=.ref D) rfl (λs5 J5 iG=>?_) (.inr hy))
 obtain⟨a,sb,ha⟩:=iG
 have hCa:C≠a:=by
  obtain⟨_,f1,_,f3,f4,f5⟩:=I2.xS (H':=λ_=>none) hC rfl
  rcases ha with z|z
  ·rw[z];exact f1
  ·exact λq=>f4 _ _ z q.symm
 exact⟨m,hn.sameBut sb hCa,λh' MR=>⟨_,_,yG J5 hC (by rw[de (abE Ma)];exact nC) MR ⟨_,_,I2⟩,q D nD⟩⟩
end
section
variable{X:Cx}{elt tg iter:Expr}{ifs:List Expr}{scope:Scope}{pos:Pos}{wi:TI}{g:TG}{tt:TT}{te:TE}{py JX:Pos}
theorem vT(N:List Str)(out:List (Str×NameKind))(is:List Nat)(hc:X.calm=true)(hi:PI X tg iter wi)(hk:scope.kind=.function)(hs:GL N out is scope.names=true)
 (hg:∀C s H ex,PG (X.block scope (jr X.env.cells scope.names []) C s H ex) tg g) (ht:∀C s H ex,∃t,NR (X.block scope (jr X.env.cells scope.names []) C s H ex) ifs t/\t=tt)
 (he:∀C s H ex,∃t,PE (X.block scope (jr X.env.cells scope.names []) C s H ex) elt t/\t=te) (Hz:∀x,foldedSetIterable iter X.env x=pure x:=by intro _;rfl) (eN:X.N=N:=by rfl) (eo:X.env.scope.names=out:=by rfl) :
 PE X (.ListComp elt [⟨tg,iter,ifs,0⟩] scope pos) (Tx is wi g tt te):=tw N out is hc hi hk hs hg (λC s H ex=>let ⟨_,h,e⟩:=ht C s H ex;e▸h) he Hz eN eo
theorem Bw{y:Str}{j:Nat}(N:List Str)(out:List (Str×NameKind))(is:List Nat)(hN:X.N.Nodup)(hj:X.N[j]?=some y)(hy:X.env.scope.names.lookup y=some .local)(hc:X.calm=true)(hi:PI X tg iter wi)(hk:scope.kind=.function)(hs:GL N out is scope.names=true)
 (hg:∀C s H ex,PG (X.block scope (jr X.env.cells scope.names []) C s H ex) tg g) (ht:∀C s H ex,∃t,NR (X.block scope (jr X.env.cells scope.names []) C s H ex) ifs t/\t=tt)
 (he:∀C s H ex,∃t,PE (X.block scope (jr X.env.cells scope.names []) C s H ex) elt t/\t=te)
 (VT:swapsWith (.ListComp elt [⟨tg,iter,ifs,0⟩] scope pos) (some (.Name y py)) JX.line X.env=pure true:=by rfl) (Hz:∀x,foldedSetIterable iter X.env x=pure x:=by intro _;rfl) (eN:X.N=N:=by rfl) (eo:X.env.scope.names=out:=by rfl) :
 PS X (.Assign [.Name y py] (.ListComp elt [⟨tg,iter,ifs,0⟩] scope pos) JX) (HN (Tx is wi g tt te) (o3 j)):=MB N out is hN hj hy hc hi hk hs hg (λC s H ex=>let ⟨_,h,e⟩:=ht C s H ex;e▸h) he VT Hz eN eo
end
theorem qY{lo:Int}{n:Nat}{g:TG}{tt:TT}{te:TE}{Q:List V->Hp->Prop}{Z:St}{H:Hp}(hn:n<=sizeLine)(Pv:Nat->List V->St->Hp->Prop)(h0:Pv 0 [] Z H)(hlen:∀i ys Z H,Pv i ys Z H->ys.length<=i)
  (hs:∀i ys Z H,i<n->Pv i ys Z H->g (.int (lo+i)) Z H λZ2 H2=>tt Z2 H2 λb H3=>if b=true then te Z2 H3 λv H4=>Pv (i+1) (ys++[v]) Z2 H4 else Pv (i+1) ys Z2 H3)
  (hd:∀ys Z H,Pv n ys Z H->Q ys H):GO g tt te (Ms lo n) Q Z H:=by
 refine⟨λi m ys Z H=>m=n-i/\i<=n/\Pv i ys Z H,⟨n,by simp,aaI _,h0⟩,?_⟩
 rintro i m ys Z H ⟨rfl,hi,p⟩
 have hl:=hlen i ys Z H p
 by_cases j9:i<n
 ·refine .inr ⟨j9,by omega,Pv (i+1),λPZ Z' H' p'=>⟨n-(i+1),by omega,rfl,j9,p'⟩,λx H' y=>?_⟩
  obtain⟨rfl,rfl⟩:=y
  exact hs i ys Z _ j9 p
 ·have e:i=n:=by omega
  subst e
  exact .inl ⟨Vb _,by omega,hd ys Z H p⟩
theorem ky{K:Qqy}{a:Addr}{xs:List V}{g:TG}{tt:TT}{te:TE}{Q:List V->Hp->Prop}{Z:St}{H:Hp}(hn:xs.length<=sizeLine)(Pv:Nat->List V->St->Hp->Prop)(h0:Pv 0 [] Z H)(hl:∀i ys Z H,i<=xs.length->Pv i ys Z H->h_ K H a xs/\ys.length<=i)
  (hs:∀i x ys Z H,xs[i]?=some x->Pv i ys Z H->g x Z H λZ2 H2=>tt Z2 H2 λb H3=>if b=true then te Z2 H3 λv H4=>Pv (i+1) (ys++[v]) Z2 H4 else Pv (i+1) ys Z2 H3)
  (hd:∀ys Z H,Pv xs.length ys Z H->Q ys H):GO g tt te (PB K a) Q Z H:=by
 refine⟨λi m ys Z H=>m=xs.length-i/\i<=xs.length/\Pv i ys Z H,⟨xs.length,by simp,aaI _,h0⟩,?_⟩
 rintro i m ys Z H ⟨rfl,hi,p⟩
 obtain⟨q,hy⟩:=hl i ys Z H hi p
 by_cases j9:i<xs.length
 ·refine .inr ⟨⟨xs,xs[i],q,by simp[j9]⟩,by omega,Pv (i+1),λPZ Z' H' p'=>⟨xs.length-(i+1),by omega,rfl,j9,p'⟩,λx H' y=>?_⟩
  obtain⟨rfl,y⟩:=y
  exact hs i x ys Z _ (y xs q) p
 ·have e:i=xs.length:=by omega
  subst e
  exact .inl ⟨⟨xs,q,Vb _⟩,by omega,hd ys Z H p⟩
end L2
namespace PySem
section
variable{prog:Program}{w:World}{A:Around}{E:Qqq}{s:Shared}
theorem F.nB:isSubtype (.type "range_iterator") (.type "reversed")=pure false:=by rw[isSubtype_type];kernel_rfl
theorem sS{r:Addr}{a b c:Int}{t u v:Tok}{Q:Qqq}(hr:IsRange s.heap r a b c t u v)
  (hf:(Builtin.Range.rangeFitsLong a&&Builtin.Range.rangeFitsLong b&&Builtin.Range.rangeFitsLong c&&Builtin.Range.rangeFitsLong (-c)&&Builtin.Range.rangeFitsLong (a-c)&&Builtin.Range.rangeFitsLong (Builtin.Range.rangeSize a b c))=true)
  (h:Q (.ref s.heap.objs.size) {s with heap:=s.heap.push {cls:=.type "range_iterator",data:=.fields #[rawInt (a+(Builtin.Range.rangeSize a b c-1)*c),rawInt (Builtin.Range.rangeSize a b c),rawInt (-c)]}}) :
  wpAny (model prog w) A (call (.builtin "range.__reversed__") [.ref r]) Q E s:=by
 have hT:s.TypeIs (.ref r) "range":=⟨_,hr,rfl⟩
 refine aa8 F.slot_range_reversed hT F.entry_range_reversed ?_ (F.args_range_reversed_1 _)
 unfold Builtin.«range.__reversed__»
 refine Ph (abL (a:=Value.ref r) rfl ?_)
 unfold Builtin.Range.rangeFields
 refine Ph (Ph (wpAny_field hr rfl (x:=.int a t) rfl ?_))
 refine Ph (abL (a:=some a) rfl ?_)
 refine Ph (wpAny_field hr rfl (x:=.int b u) rfl ?_)
 refine Ph (abL (a:=some b) rfl ?_)
 refine Ph (wpAny_field hr rfl (x:=.int c v) rfl ?_)
 refine Ph (abL (a:=some c) rfl ?_)
 refine R8 ?_
 dsimp only
 simp only [hf,Bool.not_true,aaV,ab3,if_true]
 exact Ph (aa_ (R8 ⟨_,rfl,h⟩))
theorem sT{r:Addr}{a b c:Int}{t u v:Tok}{Q1:Qqq}(hr:IsRange s.heap r a b c t u v)
  (hf:(Builtin.Range.rangeFitsLong a&&Builtin.Range.rangeFitsLong b&&Builtin.Range.rangeFitsLong c&&Builtin.Range.rangeFitsLong (-c)&&Builtin.Range.rangeFitsLong (a-c)&&Builtin.Range.rangeFitsLong (Builtin.Range.rangeSize a b c))=true)
  (h:Q1 (.ref s.heap.objs.size) {s with heap:=s.heap.push {cls:=.type "range_iterator",data:=.fields #[rawInt (a+(Builtin.Range.rangeSize a b c-1)*c),rawInt (Builtin.Range.rangeSize a b c),rawInt (-c)]}}) :
  codeAny (model prog w) A (.call (.builtin "reversed.__new__") ⟨[.type "reversed",.ref r],[]⟩) (wants Q1 E) s:=by
 have hT:s.TypeIs (.ref r) "range":=⟨_,hr,rfl⟩
 refine codeAny_of_tree ?_
 show wpAny _ A.in1 (do checkBuiltinCall "reversed.__new__" ⟨[.type "reversed",.ref r],[]⟩;again (.builtin "reversed.__new__" ⟨[.type "reversed",.ref r],[]⟩)) _ _ s
 refine Ph (abL (F.newCall_reversed_1 _) (R8 ⟨ab6 F.plain_reversed_new _,abM F.entry_reversed_new ?_⟩))
 rw[abo F.plain_reversed_new _]
 unfold Builtin.«reversed.__new__»
 refine Ph (abL (newClass_reversed _) ?_)
 try dsimp only
 refine Ph (abL (a:=()) (by first|rfl|kernel_rfl) ?_)
 refine Ph (abL (a:=()) (by first|rfl|kernel_rfl) ?_)
 try dsimp only
 refine Ph (abK hT F.slot_range_reversed.lookup ?_)
 try dsimp only
 refine Ph (abL (F.slot_range_reversed.bind _) ?_)
 try dsimp only
 first
 | rw[aac (show ¬((Value.builtin "range.__reversed__" ==Value.none)=true) from aab)]
 | (show wpAny _ _ (if(Value.builtin "range.__reversed__" ==Value.none)=true then _ else _) _ _ _;rw[aac (show ¬((Value.builtin "range.__reversed__" ==Value.none)=true) from aab)])
 refine Ph (wpAny_rule ?_)
 refine Ph (m:=runValue (.call (.builtin "range.__reversed__") ⟨[.ref r],[]⟩)) (show wpAny _ _ (call (.builtin "range.__reversed__") [.ref r]) _ _ _ from sS hr hf ?_)
 first
 | exact R8 h
 | exact Ph (R8 (R8 h))
theorem sU{r:Addr}{a b c:Int}{t u v:Tok}{Q:Qqq}(hr:IsRange s.heap r a b c t u v)
  (hf:(Builtin.Range.rangeFitsLong a&&Builtin.Range.rangeFitsLong b&&Builtin.Range.rangeFitsLong c&&Builtin.Range.rangeFitsLong (-c)&&Builtin.Range.rangeFitsLong (a-c)&&Builtin.Range.rangeFitsLong (Builtin.Range.rangeSize a b c))=true)
  (h:Q (.ref s.heap.objs.size) {s with heap:=s.heap.push {cls:=.type "range_iterator",data:=.fields #[rawInt (a+(Builtin.Range.rangeSize a b c-1)*c),rawInt (Builtin.Range.rangeSize a b c),rawInt (-c)]}}) :
  wpAny (model prog w) A (call (.type "reversed") [.ref r]) Q E s:=by
 refine callType_other (U:="range_iterator") (Q₁:=λobj s1=>obj=.ref s.heap.objs.size/\s1={s with heap:=s.heap.push {cls:=.type "range_iterator",data:=.fields #[rawInt (a+(Builtin.Range.rangeSize a b c-1)*c),rawInt (Builtin.Range.rangeSize a b c),rawInt (-c)]}})
  (by decide+kernel) F.create_reversed ⟨_,_,F.mro_reversed⟩ F.made_reversed F.nB (F.typeCall_reversed_1 _) (sT hr hf ⟨rfl,rfl⟩) ?_
 rintro obj s1 ⟨rfl,rfl⟩
 exact⟨⟨_,YK _ rfl,rfl⟩,h⟩
end
end PySem
namespace L2
open PySem PySem.Spec PyProof.Rows
def PH(lo st:Int)(n:Nat):It:=⟨λi _=>i<n,λi H x H'=>H'=H/\x=.int (lo+i*st),λi _=>n<=i⟩
theorem xg{P:Program}{w:World}{K:PySem.W.Frag}{tg:Expr}(it:Addr)(lo st:Int)(n:Nat):Turn P w K tg (PH lo st n) [it] it (λi h=>IsRangeIter h it (lo+(i:Nat)*st) ((n:Int)-(i:Nat)) st) where
 mem:=by simp
 obj:=λi h st b hb=>by
  have e:b=it:=by simpa using hb
  subst e
  exact⟨_,st,λv z=>by
   have z':Data.fields _=Data.cell v:=z
   cases z'⟩
 keep:=λi h h' st k=>k it (by simp) _ st
 item:=by
  intro X hP hw hK hc i b_ s Z H E I hf stt hg
  subst hP hw hK
  obtain⟨f0,f1,f2,f3,f4,f5⟩:=hf it (by simp)
  have W:=Walks.range (prog:=X.prog) (w:=X.w) (I.ok.hd hc) it lo st n
  refine W.item i s _ _ hg stt λv h' tk hv wO kk=>?_
  obtain⟨t,rfl⟩:=hv
  have I1:Inv X b_ Z H {s with heap:=h',toks:=tk}:=I.turned (λb o hb e=>kk b o (by simpa using hb) e) f0 f1 f3 f4 f5
  exact⟨_,rfl,yw (s:={s with heap:=h',toks:=tk}) (n:="range_iterator") wO rfl rfl (by decide) ⟨.int (lo+i*st),H,I1,⟨t,rfl⟩,⟨rfl,rfl⟩,wO,λb hb=>(hf b hb).1⟩⟩
 done:=by
  intro X hP hw hK hc i b_ s Z H E I hf st hg
  subst hP hw hK
  obtain⟨f0,f1,f2,f3,f4,f5⟩:=hf it (by simp)
  exact wpAny_pyNext_range_end (I.ok.hd hc) st (by have:n<=i:=hg;omega) λh' eb=>⟨rfl,I.turned (t':=s.toks) (λb o hb e=>eb b o hb e) f0 f1 f3 f4 f5⟩
 self:=λ_ _ _ _ _ st h=>wpAny_pyIter_rangeiter st h
theorem rangeSize_down(a b:Int):Builtin.Range.rangeSize a b (-1)=((a-b).toNat:Int):=by
 unfold Builtin.Range.rangeSize
 simp only [show ¬((-1:Int)>0) by decide,ab3]
 have e:(- -1:Int)=1:=by decide
 rw[e,Int.ediv_one]
 split<;>omega
theorem small_down{a b:Int}(ha:-(2 ^ 61)<=a)(ha':a<2 ^ 61)(hb:-(2 ^ 61)<=b)(VU:b<2 ^ 61):Builtin.Range.small a b (-1)=true:=by
 unfold Builtin.Range.small
 rw[rangeSize_down]
 simp only [Builtin.Range.rangeFitsLong,aaW,acu,abl,abN,show ¬((-1:Int)>0) by decide,ab3]
 omega
section
variable{X:Cx}{tg:Expr}
def QM(ta:TA):TI:=λZ H R=>ta Z H λvs H1=>∃i j:Int,vs=[.int i,.int j,.int (-1)]/\(-(2 ^ 61)<=i/\i<2 ^ 61/\-(2 ^ 61)<=j/\j<2 ^ 61)/\R (PH i (-1) (i-j).toNat) H1
theorem vU{a b c:Expr}{ta:TA}{p pos:Pos}(hg:Gl X "range")(hm:X.mg "range"=none)(ha:PA X [a,b,c] ta)(hs:starEach [a,b,c] X.env=[(false,eval a X.env),(false,eval b X.env),(false,eval c X.env)]:=by rfl)
  (HE:starEach [b,c] X.env=[(false,eval b X.env),(false,eval c X.env)]:=by rfl):PI X tg (.Call (.Name "range" p) [a,b,c] [] pos) (QM ta):=by
 intro b_ s Z H R I h
 refine Call_ (lT I hg hm boot_range (aaN (iX (ha pos b_ s Z H _ I h) λus s1 iG=>?_) (by rw[hs,HE]) (by rw[HE];rfl)))
 obtain⟨vs,H1,I1,r1,q1⟩:=iG
 obtain⟨i,j,e,⟨q1,q2,q3,q4⟩,q⟩:=q1
 subst e
 cases r1 with
 | cons r rr=>
  cases rr with
  | cons r' rr=>
   cases rr with
   | cons r'' rr=>
    cases rr
    obtain⟨t,rfl⟩:=r
    obtain⟨t',rfl⟩:=r'
    obtain⟨Y0,rfl⟩:=r''
    refine call_range_3 (by decide) ?_ (Or.inl (PyProof.noPylong_small (by decide)))
    refine wpAny_pyIter_range (IsRange.new ..) (small_down q1 q2 q3 q4) ?_
    generalize ho:({cls:=.type "range",data:=.fields #[.int i t,.int j t',.int (-1) Y0]}:Obj)=o
    have I2:Inv X b_ Z H1 {s1 with heap:=s1.heap.push o,toks:=s1.toks}:=I1.kept λb o e=>Ve _ e
    refine⟨(s1.heap.push o).objs.size,[(s1.heap.push o).objs.size],_,_,H1,rfl,I2.kept (t':=s1.toks) λb o e=>Ve _ e,xg _ i (-1) (i-j).toNat,?_,λb hb=>?_,q⟩
    ·show IsRangeIter _ _ (i+((0:Nat):Int)*(-1)) ((((i-j).toNat:Nat):Int)-((0:Nat):Int)) (-1)
     have e1:i+((0:Nat):Int)*(-1)=i:=by simp
     have e2:(((i-j).toNat:Nat):Int)-((0:Nat):Int)=Builtin.Range.rangeSize i j (-1):=by rw[rangeSize_down];simp
     rw[e1,e2]
     exact YK _ rfl
    ·have e:b=(s1.heap.push o).objs.size:=by simpa using hb
     subst e
     exact I2.xS (Vb _) (I2.iC.fresh (Vb _))
theorem uK:qE X (.type "range") (λxs H Q=>∃j:Int,xs=[.int j]/\∀p,H p=none->Q (.ref p) (upd H p (.Mp 0 j))):=by
 intro b_ s Z H xs us Q I r h
 obtain⟨j,rfl,q⟩:=h
 obtain⟨u,rfl,ru⟩:=vals1 r
 obtain⟨t,rfl⟩:=ru
 refine call_range_1 ⟨.ref s.heap.objs.size,_,I.laid (o:=.Mp 0 j) (λb o e=>Ve _ e) (Vb _) ⟨_,_,_,YK _ rfl⟩,rfl,q _ (I.iC.fresh (Vb _))⟩
def U9(ta:TA):TI:=λZ H R=>ta Z H λvs H1=>∃(r:Addr)(lo hi:Int),vs=[.ref r]/\H1 r=some (.Mp lo hi)/\(-(2 ^ 61)<=lo/\lo<2 ^ 61/\-(2 ^ 61)<=hi/\hi<2 ^ 61)/\R (PH (lo+((hi-lo).toNat:Int)-1) (-1) (hi-lo).toNat) H1
theorem Il{a:Expr}{ta:TA}{p pos:Pos}(hg:Gl X "reversed")(hm:X.mg "reversed"=none)(ha:PA X [a] ta)(hs:starEach [a] X.env=[(false,eval a X.env)]:=by rfl):PI X tg (.Call (.Name "reversed" p) [a] [] pos) (U9 ta):=by
 intro b_ s Z H R I h
 refine Call_ (lT I hg hm boot_reversed (aaN (iX (ha pos b_ s Z H _ I h) λus s1 iG=>?_) hs rfl))
 obtain⟨vs,H1,I1,r1,q1⟩:=iG
 obtain⟨r,lo,hi,e,hr,⟨q1,q2,q3,q4⟩,q⟩:=q1
 subst e
 cases r1 with
 | cons r0 rr=>
  cases rr
  cases r0
  obtain⟨t,u,v,ho⟩:=(show iR X.prog X.w H1 s1.heap r (.Mp lo hi) from I1.iC r _ hr)
  have es:Builtin.Range.rangeSize lo hi 1=((hi-lo).toNat:Int):=by rw[rangeSize_one];split<;>omega
  refine sU (show IsRange s1.heap r lo hi 1 t u v from ho) (by
   rw[es]
   simp only [Builtin.Range.rangeFitsLong,aaW,abl]
   omega) ?_
  rw[es]
  have I2:Inv X b_ Z H1 {s1 with heap:=s1.heap.push {cls:=.type "range_iterator",data:=.fields #[rawInt (lo+(((hi-lo).toNat:Int)-1)*1),rawInt ((hi-lo).toNat:Int),rawInt (-1)]}}:=I1.kept (t':=s1.toks) λb o e=>Ve _ e
  have st:IsRangeIter (s1.heap.push {cls:=.type "range_iterator",data:=.fields #[rawInt (lo+(((hi-lo).toNat:Int)-1)*1),rawInt ((hi-lo).toNat:Int),rawInt (-1)]}) s1.heap.objs.size (lo+((hi-lo).toNat:Int)-1+((0:Nat):Int)*(-1)) (((hi-lo).toNat:Int)-((0:Nat):Int)) (-1):=by
   have e1:lo+((hi-lo).toNat:Int)-1+((0:Nat):Int)*(-1)=lo+(((hi-lo).toNat:Int)-1)*1:=by omega
   have e2:((hi-lo).toNat:Int)-((0:Nat):Int)=((hi-lo).toNat:Int):=by omega
   rw[e1,e2]
   exact YK _ rfl
  refine wpAny_pyIter_rangeiter st ?_
  refine⟨s1.heap.objs.size,[s1.heap.objs.size],_,_,H1,rfl,I2,xg _ (lo+((hi-lo).toNat:Int)-1) (-1) (hi-lo).toNat,st,λb hb=>?_,q⟩
  have e:b=s1.heap.objs.size:=by simpa using hb
  subst e
  exact I1.xS (Vb _) (I1.iC.fresh (Vb _))
end
theorem nI{lo st:Int}{n:Nat}{g:TG}{tb:TS}{D:Ends}{Z:St}{H:Hp}(Pv:Nat->St->Hp->Prop)(h0:Pv 0 Z H)
  (hs:∀i Z H,i<n->Pv i Z H->g (.int (lo+i*st)) Z H λZ2 H2=>tb {D with nx:=Pv (i+1),ct:=Pv (i+1),bk:=D.nx} Z2 H2) (hd:∀Z H,Pv n Z H->D.nx Z H) :
  ∃W:Nat->Nat->St->Hp->Prop,(∃m,W 0 m Z H)/\∀i m Z H,W i m Z H->
   ((PH lo st n).stop i H/\D.nx Z H)\/((PH lo st n).go i H/\∃N:St->Hp->Prop,(∀Z' H',N Z' H'->∃m',m'<m/\W (i+1) m' Z' H')/\∀x H',(PH lo st n).Kr i H x H'->g x Z H' λZ2 H2=>tb {D with nx:=N,ct:=N,bk:=D.nx} Z2 H2):=by
 refine⟨λi m Z H=>m=n-i/\i<=n/\Pv i Z H,⟨n,by simp,aaI _,h0⟩,?_⟩
 rintro i m Z H ⟨rfl,hi,p⟩
 by_cases j9:i<n
 ·refine .inr ⟨j9,Pv (i+1),λZ' H' p'=>⟨n-(i+1),by omega,rfl,j9,p'⟩,λx H' y=>?_⟩
  obtain⟨e,y⟩:=y
  subst e y
  exact hs i Z _ j9 p
 ·have e:i=n:=by omega
  subst e
  exact .inl ⟨Vb _,hd Z H p⟩
section
variable{X:Cx}
theorem jV:qE X (.builtin "isinstance") (λxs H Q=>∃x T t b,xs=[x,.ty T]/\vQ X.K H x t/\W.kitOne X.K t (.type T)=some b/\Q (.bl b) H):=by
 intro b_ s Z H xs us Q I r h
 obtain⟨x,T,t,b,rfl,ty,e,q⟩:=h
 obtain⟨u,u',rfl,ru,ru'⟩:=vals2 r
 cases (show u'=Value.type T from ru')
 exact GD I ru ty e λtk=>⟨.bl b,H,I.tok tk,rfl,q⟩
theorem yH:∀{xs:List Str} {us:List Value},Vals (xs.map V.str) us->StrsAre us xs
 | [],_,h=>by cases h;exact .nil
 | x::r,_,h=>by
  cases h with
  | cons a t=>
   obtain⟨tk,rfl⟩:=a
   exact .cons x tk (yH t)
def rJoin(K:Qqy):V->List V->Hp->VK->Prop:=λx vs H Q=>∃z l xs,x=.str z/\vs=[.ref l]/\h_ K H l (xs.map V.str)/\(xs.map (·.length)).sum+xs.length*z.length<=16777216/\Q (.str (Txt.join z xs)) H
theorem K4:UX X "str.join" (rJoin X.K):=by
 intro b_ s Z H x xs v us Q I rx r h
 obtain⟨z,l,ys,rfl,rfl,hl,hz,q⟩:=h
 obtain⟨u,rfl,ru⟩:=vals1 r
 cases ru
 obtain⟨t,rfl⟩:=rx
 obtain⟨ib,rv,p,_⟩:=I.list hl
 exact join_list p.isList (by simpa using yH rv) hz λt' k=>⟨.str _,H,I.tok k,⟨t',rfl⟩,q⟩
end
inductive o7(K:Qqy)(H:Hp):Nat->V->V->Bool->Prop
 | flat {n x y} (fx:qW x=true) (fy:qW y=true):o7 K H n x y (PD x y)
 | lists {n a c xs ys} {e:Nat->Bool} (h1:h_ K H a xs) (h2:h_ K H c ys) (hl:xs.length=ys.length) (he:∀(j:Nat) u v,xs[j]?=some u->ys[j]?=some v->o7 K H n u v (e j)):o7 K H (n+1) (.ref a) (.ref c) ((List.range xs.length).all e)
 | K5 {n a c xs ys} (h1:h_ K H a xs) (h2:h_ K H c ys) (hl:xs.length≠ys.length):o7 K H n (.ref a) (.ref c) false
 | pT {n a c xs ys} {e:Nat->Bool} (h1:qT K H a xs) (h2:qT K H c ys) (he:∀(j:Nat) u v,xs[j]?=some u->ys[j]?=some v->o7 K H n u v (e j)):o7 K H (n+1) (.ref a) (.ref c) ((List.range (min xs.length ys.length)).all e&&xs.length ==ys.length)
 | vV {n a xs y} (h1:h_ K H a xs) (fy:qW y=true):o7 K H n (.ref a) y false
 | vW {n a xs y} (h1:h_ K H a xs) (fy:qW y=true):o7 K H n y (.ref a) false
 | yI {n a xs y} (h1:qT K H a xs) (fy:qW y=true):o7 K H n (.ref a) y false
 | yJ {n a xs y} (h1:qT K H a xs) (fy:qW y=true):o7 K H n y (.ref a) false
 | yK {n a c xs ys} (h1:h_ K H a xs) (h2:qT K H c ys):o7 K H n (.ref a) (.ref c) false
 | yL {n a c xs ys} (h1:qT K H a xs) (h2:h_ K H c ys):o7 K H n (.ref a) (.ref c) false
theorem Im:∀{x:V},qW x=true->PD x x=true:=by
 intro x h
 cases x<;>simp[qW,PD] at *
section
variable{X:Cx}{b_:Qqz}{Z:St}{H:Hp}{s:Shared}
theorem Inv.MC{a c:Addr}{xs ys:List V}(I:Inv X b_ Z H s)(h1:h_ X.K H a xs)(h2:qT X.K H c ys):a≠c:=by
 obtain⟨ib,_,p,_⟩:=I.list h1
 obtain⟨lL,_,p2,_⟩:=I.tuple h2
 exact SeqAt.ne_of_list_tuple p.isList (show s.heap.IsTuple c lL.toArray from p2)
theorem o7.self{n:Nat}{x y:V}{b:Bool}(I:Inv X b_ Z H s)(h:o7 X.K H n x y b):x=y->b=true:=by
 induction h with
 | flat fx fy=>intro e;subst e;exact Im fx
 | lists h1 h2 hl he ih=>
  intro e
  cases e
  have:=I.oZ h1 h2
  subst this
  refine abO.mpr λj hj=>?_
  have hj:=List.mem_range.mp hj
  exact ih j _ _ (R7 hj) (R7 hj) rfl
 | K5 h1 h2 hl=>intro e;cases e;exact absurd (aaQ List.length (I.oZ h1 h2)) hl
 | pT h1 h2 he ih=>
  intro e
  cases e
  have:=I.Gw h1 h2
  subst this
  rw[aaW]
  refine⟨abO.mpr λj hj=>?_,by simp⟩
  have hj:=List.mem_range.mp hj
  rw[Nat.min_self] at hj
  exact ih j _ _ (R7 hj) (R7 hj) rfl
 | vV h1 fy=>intro e;subst e;exact absurd (show false=true from fy) aab
 | vW h1 fy=>intro e;subst e;exact absurd (show false=true from fy) aab
 | yI h1 fy=>intro e;subst e;exact absurd (show false=true from fy) aab
 | yJ h1 fy=>intro e;subst e;exact absurd (show false=true from fy) aab
 | yK h1 h2=>intro e;cases e;exact absurd rfl (I.MC h1 h2)
 | yL h1 h2=>intro e;cases e;exact absurd rfl (I.MC h2 h1)
theorem pW{y:V}{v:Value}(r:RelV y v)(f:qW y=true):v=.none\/(∃b,v=.bool b)\/(∃i t,v=.int i t)\/∃x t,v=.str x t:=by
 cases y with
 | jb=>exact .inl r
 | bl b=>exact .inr (.inl ⟨b,r⟩)
 | int i=>obtain⟨t,e⟩:=r;exact .inr (.inr (.inl ⟨i,t,e⟩))
 | str x=>obtain⟨t,e⟩:=r;exact .inr (.inr (.inr ⟨x,t,e⟩))
 | _=>exact absurd (show false=true from f) aab
theorem ou{xs:List V}{ib:List Value}(rv:Vals xs ib){j:Nat}(h:j<ib.toArray.size):∃x,xs[j]?=some x/\RelV x ib.toArray[j]:=by
 have hl:=rv.length
 have hj:j<ib.length:=by simpa using h
 have hx:j<xs.length:=by omega
 obtain⟨u,hu,ru⟩:=rv.get (R7 hx)
 refine⟨xs[j],R7 hx,?_⟩
 rw[R7 hj] at hu
 cases hu
 simpa using ru
theorem o7.at{n:Nat}{x y:V}{b:Bool}(I:Inv X b_ Z H s)(h:o7 X.K H n x y b):∀(A:Around)(u v:Value),RelV x u->RelV y v->A.units+n<cLine->SeqAt.EqAt A s u v b:=by
 induction h with
 | flat fx fy=>intro A u v ru rv _;exact NH ru rv fx fy
 | @lists n a c xs ys e h1 h2 hl he ih=>
  intro A u v ru rv hu
  cases ru;cases rv
  by_cases RO:a=c
  ·subst RO
   have hb:=o7.self I (o7.lists h1 h2 hl he) rfl
   rw[hb]
   exact SeqAt.EqAt.same _
  ·obtain⟨ib,r1,p1,_⟩:=I.list h1
   obtain⟨lL,r2,p2,_⟩:=I.list h2
   have l1:=r1.length
   have l2:=r2.length
   refine SeqAt.EqAt.of_refs RO ?_
   have q:=SeqAt.RcAt.lists (A:=A) (e:=e) p1.isList p2.isList (by simp;omega) (by omega) λj g1 g2=>by
    obtain⟨x,ex,rx⟩:=ou r1 g1
    obtain⟨y,ey,ry⟩:=ou r2 g2
    exact ih j x y ex ey A.in1 _ _ rx ry (by show A.units+1+n<cLine;omega)
   rw[aaa,<-l1] at q
   exact q
 | @K5 n a c xs ys h1 h2 hl=>
  intro A u v ru rv hu
  cases ru;cases rv
  obtain⟨ib,r1,p1,_⟩:=I.list h1
  obtain⟨lL,r2,p2,_⟩:=I.list h2
  have l1:=r1.length
  have l2:=r2.length
  refine SeqAt.EqAt.of_refs (λe=>?_) (SeqAt.RcAt.lists_lengths p1.isList p2.isList (by simp;omega) (by omega))
  subst e
  exact hl (aaQ List.length (I.oZ h1 h2))
 | @pT n a c xs ys e h1 h2 he ih=>
  intro A u v ru rv hu
  cases ru;cases rv
  by_cases RO:a=c
  ·subst RO
   have hb:=o7.self I (o7.pT h1 h2 he) rfl
   rw[hb]
   exact SeqAt.EqAt.same _
  ·obtain⟨ib,r1,p1,_⟩:=I.tuple h1
   obtain⟨lL,r2,p2,_⟩:=I.tuple h2
   have l1:=r1.length
   have l2:=r2.length
   refine SeqAt.EqAt.of_refs RO ?_
   have q:=SeqAt.RcAt.tuples (A:=A) (e:=e) (show s.heap.IsTuple a ib.toArray from p1) (show s.heap.IsTuple c lL.toArray from p2) (by omega) λj g1 g2=>by
    obtain⟨x,ex,rx⟩:=ou r1 g1
    obtain⟨y,ey,ry⟩:=ou r2 g2
    exact ih j x y ex ey A.in1 _ _ rx ry (by show A.units+1+n<cLine;omega)
   rw[aaa,aaa,<-l1,<-l2] at q
   exact q
 | @vV n a xs y h1 fy=>
  intro A u v ru rv hu
  cases ru
  obtain⟨ib,r1,p1,_⟩:=I.list h1
  rcases pW rv fy with rfl|⟨b,rfl⟩|⟨i,t,rfl⟩|⟨x,t,rfl⟩
  ·exact .list_none p1.isList (by omega)
  ·exact .list_bool b p1.isList (by omega)
  ·exact .list_int i t p1.isList (by omega)
  ·exact .list_str x t p1.isList (by omega)
 | @vW n a xs y h1 fy=>
  intro A u v ru rv hu
  cases rv
  obtain⟨ib,r1,p1,_⟩:=I.list h1
  rcases pW ru fy with rfl|⟨b,rfl⟩|⟨i,t,rfl⟩|⟨x,t,rfl⟩
  ·exact .none_list p1.isList (by omega)
  ·exact .bool_list b p1.isList (by omega)
  ·exact .int_list i t p1.isList (by omega)
  ·exact .str_list x t p1.isList (by omega)
 | @yI n a xs y h1 fy=>
  intro A u v ru rv hu
  cases ru
  obtain⟨ib,r1,p1,_⟩:=I.tuple h1
  have p1:s.heap.IsTuple a ib.toArray:=p1
  rcases pW rv fy with rfl|⟨b,rfl⟩|⟨i,t,rfl⟩|⟨x,t,rfl⟩
  ·exact .tuple_none p1 (by omega)
  ·exact .tuple_bool b p1 (by omega)
  ·exact .tuple_int i t p1 (by omega)
  ·exact .tuple_str x t p1 (by omega)
 | @yJ n a xs y h1 fy=>
  intro A u v ru rv hu
  cases rv
  obtain⟨ib,r1,p1,_⟩:=I.tuple h1
  have p1:s.heap.IsTuple a ib.toArray:=p1
  rcases pW ru fy with rfl|⟨b,rfl⟩|⟨i,t,rfl⟩|⟨x,t,rfl⟩
  ·exact .none_tuple p1 (by omega)
  ·exact .bool_tuple b p1 (by omega)
  ·exact .int_tuple i t p1 (by omega)
  ·exact .str_tuple x t p1 (by omega)
 | @yK n a c xs ys h1 h2=>
  intro A u v ru rv hu
  cases ru;cases rv
  obtain⟨ib,r1,p1,_⟩:=I.list h1
  obtain⟨lL,r2,p2,_⟩:=I.tuple h2
  exact .list_tuple p1.isList (show s.heap.IsTuple c lL.toArray from p2) (by omega)
 | @yL n a c xs ys h1 h2=>
  intro A u v ru rv hu
  cases ru;cases rv
  obtain⟨ib,r1,p1,_⟩:=I.tuple h1
  obtain⟨lL,r2,p2,_⟩:=I.list h2
  exact .tuple_list (show s.heap.IsTuple a ib.toArray from p1) p2.isList (by omega)
def NS(x y:V):Prop:=∃a c,x=.ref a/\y=.ref c
theorem o7.rc{n:Nat}{x y:V}{b:Bool}{A:Around}{u v:Value}(I:Inv X b_ Z H s)(h:o7 X.K H n x y b)(sq:NS x y)(ru:RelV x u)(rv:RelV y v)(hu:A.units+n+1<cLine):SeqAt.RcAt A s u v b/\SeqAt.RcNeAt A s u v (!b):=by
 obtain⟨a0,c0,rfl,rfl⟩:=sq
 cases ru;cases rv
 cases h with
 | flat fx fy=>exact absurd (show false=true from fx) aab
 | @lists n a c xs ys e h1 h2 hl he=>
  obtain⟨ib,r1,p1,_⟩:=I.list h1
  obtain⟨lL,r2,p2,_⟩:=I.list h2
  have l1:=r1.length
  have l2:=r2.length
  have el:∀j (g1:j<ib.toArray.size) (g2:j<lL.toArray.size),SeqAt.EqAt A.in1 s ib.toArray[j] lL.toArray[j] (e j):=λj g1 g2=>by
   obtain⟨x,ex,rx⟩:=ou r1 g1
   obtain⟨y,ey,ry⟩:=ou r2 g2
   exact(he j x y ex ey).at I A.in1 _ _ rx ry (by show A.units+1+n<cLine;omega)
  have q:=SeqAt.RcAt.lists (A:=A) (e:=e) p1.isList p2.isList (by simp;omega) (by omega) el
  have q':=SeqAt.RcNeAt.lists (A:=A) (e:=e) p1.isList p2.isList (by simp;omega) (by omega) el
  rw[aaa,<-l1] at q q'
  exact⟨q,q'⟩
 | @K5 n a c xs ys h1 h2 hl=>
  obtain⟨ib,r1,p1,_⟩:=I.list h1
  obtain⟨lL,r2,p2,_⟩:=I.list h2
  have l1:=r1.length
  have l2:=r2.length
  exact⟨SeqAt.RcAt.lists_lengths p1.isList p2.isList (by simp;omega) (by omega),SeqAt.RcNeAt.lists_lengths p1.isList p2.isList (by simp;omega) (by omega)⟩
 | @pT n a c xs ys e h1 h2 he=>
  obtain⟨ib,r1,p1,_⟩:=I.tuple h1
  obtain⟨lL,r2,p2,_⟩:=I.tuple h2
  have l1:=r1.length
  have l2:=r2.length
  have el:∀j (g1:j<ib.toArray.size) (g2:j<lL.toArray.size),SeqAt.EqAt A.in1 s ib.toArray[j] lL.toArray[j] (e j):=λj g1 g2=>by
   obtain⟨x,ex,rx⟩:=ou r1 g1
   obtain⟨y,ey,ry⟩:=ou r2 g2
   exact(he j x y ex ey).at I A.in1 _ _ rx ry (by show A.units+1+n<cLine;omega)
  have q:=SeqAt.RcAt.tuples (A:=A) (e:=e) (show s.heap.IsTuple a0 ib.toArray from p1) (show s.heap.IsTuple c0 lL.toArray from p2) (by omega) el
  have q':=SeqAt.RcNeAt.tuples (A:=A) (e:=e) (show s.heap.IsTuple a0 ib.toArray from p1) (show s.heap.IsTuple c0 lL.toArray from p2) (by omega) el
  rw[aaa,aaa,<-l1,<-l2] at q q'
  exact⟨q,q'⟩
 | vV h1 fy=>exact absurd (show false=true from fy) aab
 | vW h1 fy=>exact absurd (show false=true from fy) aab
 | yI h1 fy=>exact absurd (show false=true from fy) aab
 | yJ h1 fy=>exact absurd (show false=true from fy) aab
 | @yK n a c xs ys h1 h2=>
  obtain⟨ib,r1,p1,_⟩:=I.list h1
  obtain⟨lL,r2,p2,_⟩:=I.tuple h2
  exact⟨.list_tuple p1.isList (show s.heap.IsTuple c0 lL.toArray from p2) (by omega),.list_tuple p1.isList (show s.heap.IsTuple c0 lL.toArray from p2) (by omega)⟩
 | @yL n a c xs ys h1 h2=>
  obtain⟨ib,r1,p1,_⟩:=I.tuple h1
  obtain⟨lL,r2,p2,_⟩:=I.list h2
  exact⟨.tuple_list (show s.heap.IsTuple a0 ib.toArray from p1) p2.isList (by omega),.tuple_list (show s.heap.IsTuple a0 ib.toArray from p1) p2.isList (by omega)⟩
end
section
variable{X:Cx}
def U_(K:Qqy)(n:Nat):R2:=λx y H Q=>∃b,NS x y/\o7 K H n x y b/\Q (.bl b) H
def Va(K:Qqy)(n:Nat):R2:=λx y H Q=>∃b,NS x y/\o7 K H n x y b/\Q (.bl (!b)) H
theorem Io(n:Nat)(hu:X.A.units+n+1<cLine):ye X (compareOp .Eq) (U_ X.K n):=by
 intro b_ s Z H x y u v Q I rx ry h
 obtain⟨b,sq,e,q⟩:=h
 exact(e.rc I sq rx ry hu).1 X.prog X.w X.xe _ ⟨.bl b,H,I,rfl,q⟩
theorem EF(n:Nat)(hu:X.A.units+n+1<cLine):ye X (compareOp .NotEq) (Va X.K n):=by
 intro b_ s Z H x y u v Q I rx ry h
 obtain⟨b,sq,e,q⟩:=h
 exact(e.rc I sq rx ry hu).2 X.prog X.w X.xe _ ⟨.bl (!b),H,I,rfl,q⟩
end
theorem o7.K6{K:Qqy}{H:Hp}{n:Nat}{Y:Type}[DecidableEq Y]{F:Y->V->Prop}(hF:∀p q u v,F p u->F q v->o7 K H n u v (decide (p=q))){a c:Addr}{xs ys:List V}{ps qs:List Y}
  (h1:h_ K H a xs) (h2:h_ K H c ys) (r1:Paired F ps xs) (r2:Paired F qs ys):o7 K H (n+1) (.ref a) (.ref c) (decide (ps=qs)):=by
 have l1:=r1.length
 have l2:=r2.length
 have RP:∀{ps:List Y} {xs:List V},Paired F ps xs->∀(j:Nat) u,xs[j]?=some u->∃p,ps[j]?=some p/\F p u:=by
  intro ps xs r
  induction r with
  | nil=>intro j u h;simp at h
  | cons f t ih=>
   intro j u h
   cases j with
   | zero=>simp at h;subst h;exact⟨_,rfl,f⟩
   | succ j=>simpa using ih j u (by simpa using h)
 by_cases hl:xs.length=ys.length
 ·have e:o7 K H (n+1) (.ref a) (.ref c) ((List.range xs.length).all λj=>decide (ps[j]?=qs[j]?)):=.lists h1 h2 hl λj u v hu hv=>by
   obtain⟨p,ep,fp⟩:=RP r1 j u hu
   obtain⟨q,eq,fq⟩:=RP r2 j v hv
   have:=hF p q u v fp fq
   rw[ep,eq]
   have e:decide (some p=some q)=decide (p=q):=by simp
   rw[e]
   exact this
  have e2:((List.range xs.length).all λj=>decide (ps[j]?=qs[j]?))=decide (ps=qs):=by
   by_cases h:ps=qs
   ·subst h;simp
   ·rw[aai h,abF]
    intro z
    refine h (acm λj=>?_)
    by_cases hj:j<xs.length
    ·simpa using abO.mp z j (List.mem_range.mpr hj)
    ·rw[List.getElem?_eq_none_iff.mpr (by omega),List.getElem?_eq_none_iff.mpr (by omega)]
  rw[<-e2]
  exact e
 ·rw[aai λz=>hl (by rw[<-l1,<-l2,z])]
  exact .K5 h1 h2 hl
theorem o7.Ip{K:Qqy}{H:Hp}{n:Nat}(p q:Str):o7 K H n (.str p) (.str q) (decide (p=q)):=by
 have:PD (.str p) (.str q)=decide (p=q):=(Bool.beq_eq_decide_eq p q)
 rw[<-this]
 exact .flat rfl rfl
theorem o7.NT{K:Qqy}{H:Hp}{n:Nat}(p q:Int):o7 K H n (.int p) (.int q) (decide (p=q)):=by
 have:PD (.int p) (.int q)=decide (p=q):=(Bool.beq_eq_decide_eq p q)
 rw[<-this]
 exact .flat rfl rfl
structure QN(P:Program)(w:World)(outer:List Env)(H H':Hp)(s s':Shared)(e C:Addr):Prop where
 os:s'.os=s.os
 bare:AllBare s'.gens
 un:Un (tm outer) [] H H' s.heap s'.heap
 iC:qD P w H' s'.heap
 fl:∃B t,Heap.FlyingW B outer e (.ref C) (.ref t) s'.heap/\∀b o,s'.heap.get? b=some o->b∉tm outer->((∃u,H' b=some u)\/∃o',s.heap.get? b=some o')->B.get? b=some o
 new:s.heap.get? e=none
 free:H' e=none
def xU(P:Program)(w:World):FG:=λouter H s E ev s'=>∃e C H',ev=.ref e/\QN P w outer H H' s s' e C/\E (.ref C) none H'
theorem iR.ex{P:Program}{w:World}{H:Hp}{h:Heap}{a:Addr}{o:HO}(x:iR P w H h a o):∃ob,h.get? a=some ob:=by
 cases o with
 | lst xs=>obtain⟨_,_,_,_,e⟩:=x;exact⟨_,e⟩
 | tup xs=>obtain⟨_,_,_,o,e,_⟩:=x;exact⟨_,e⟩
 | dK kvs=>obtain⟨_,_,_,_,o,_,_,e,_⟩:=x;exact⟨_,e⟩
 | dT kvs=>obtain⟨_,_,_,_,o,_,_,e,_⟩:=x;exact⟨_,e⟩
 | set S n=>obtain⟨o,_,_,_,e,_⟩:=x;exact⟨_,e⟩
 | ins C dx fs=>obtain⟨_,_,_,e,_⟩:=x;exact⟨_,e⟩
 | own y=>obtain⟨_,e⟩:=x;exact⟨_,e⟩
 | xd fs=>obtain⟨_,⟨_,_,_,e,_⟩,_⟩:=x;exact⟨_,e⟩
 | Mp lo hi=>obtain⟨_,_,_,e⟩:=x;exact⟨_,e⟩
 | oh ob u=>obtain⟨e,_⟩:=x;exact⟨_,e⟩
 | Kn ps=>exact⟨_,(show h.get? a=some _ from x)⟩
 | met f y=>exact⟨_,(show h.get? a=some _ from x)⟩
 | ext Z=>obtain⟨_,⟨_,e⟩,_⟩:=x;exact⟨_,e⟩
section
variable{X:Cx}{b_:Qqz}{Z:St}{H H':Hp}{s s':Shared}{e C:Addr}{M:Model}{E:Qqq}
structure Bd(X:Cx):Prop where
 stack:X.stack=X.env::X.outer
 frame:X.env.frame=some X.env.locals
 ex:X.ex=[]
theorem Inv.KL(I:Inv X b_ Z H s){b:Addr}{o:Obj}(h:X.s₀.heap.get? b=some o)(nf:b∉X.fs):b∉tm X.stack:=λhb=>by
 rcases V9.mp (I.vL b hb) with z|z
 ·rw[z] at h
  exact absurd (aaw (aak h) I.ok.above) (abj _)
 ·exact nf z
theorem Iq(I:Inv X b_ Z H s)(bd:Bd X)(un:Un (tm X.stack) [] H H' s.heap s'.heap)(hos:s'.os=s.os)(RQ:AllBare s'.gens)(iC:qD X.prog X.w H' s'.heap){B OY:Heap}{t:Addr}
  (hB:∀b o,s'.heap.get? b=some o->b∉tm X.stack->((∃u,H' b=some u)\/∃o',s.heap.get? b=some o')->B.get? b=some o)
  (hF:s'.heap.FunFrames B X.stack) (Ks:Heap.FlyingW B X.outer e (.ref C) (.ref t) OY) (up:s'.heap.UpToSlots OY) (new:s.heap.get? e=none) (VV:H' e=none) :
  QN X.prog X.w X.outer X.H₀ H' X.s₀ {s' with heap:=OY} e C:=by
 have hex:=bd.ex
 have RS:∀b∈tm X.stack,H' b=none:=λb hb=>by
  obtain⟨_,o,ho,_⟩:=I.stack.mem hb
  exact un.free b o ho (I.Bl b hb) (by simp)
 have MS:∀b u,H' b=some u->b∉tm X.stack:=λb u hu hb=>by rw[RS b hb] at hu;cases hu
 have Bh:∀b o u,s'.heap.get? b=some o->H' b=some u->OY.get? b=some o:=λb o u ho hu=>
  Ks.1 b o (hB b o ho (MS b u hu) (.inl ⟨u,hu⟩))
 have sR:∀b,b∉X.ex:=λb z=>by rw[hex] at z;cases z
 have outS:∀b,b∈tm X.outer->b∈tm X.stack:=λb hb=>by
  rw[bd.stack];unfold tm;rw[abH,bd.frame];exact YE _ hb
 refine⟨hos.trans I.os,RQ,⟨λb o q n hb hx=>?_,λb o q n hb hx=>?_,λb o q n hx=>?_,λb o q hx=>?_,λb xs q=>un.pT b xs (I.base.pT b xs q),λb o u q=>un.tV b o u (I.base.tV b o u q),λb ps q=>?_⟩,λa u ha=>?_,⟨B,t,Ks,λb o hb nb hc=>?_⟩,?_,VV⟩
 ·have q1:=I.base.keep b o q n hb (sR b)
  have nf:=I.KL q hb
  exact Ks.1 b o (hB b o (un.keep b o q1 (I.base.free b o q n (sR b)) nf (by simp)) nf (.inr ⟨o,q1⟩))
 ·obtain⟨sl,q1⟩:=I.base.slot b o q n hb (sR b)
  obtain⟨Kt,q2⟩:=un.any q1 (I.base.free b o q n (sR b)) (by simp)
  obtain⟨_,o',qr,hd⟩:=I.ok.tW.mem hb
  rw[q] at qr;cases qr
  obtain⟨Em,q3⟩:=up b _ q2 hd
  exact⟨Em,q3⟩
 ·obtain⟨o',q1⟩:=I.base.there b o q (sR b)
  exact un.free b o' q1 (I.base.free b o q n (sR b)) (by simp)
 ·obtain⟨o1,q1⟩:=I.base.there b o q (sR b)
  obtain⟨o2,q2⟩:=un.there b o1 q1 (by simp)
  by_cases hb:b∈tm X.stack
  ·obtain⟨_,o',qr,hd⟩:=hF.mem hb
   rw[q2] at qr;cases qr
   obtain⟨Em,q3⟩:=up b _ q2 hd
   exact⟨_,q3⟩
  ·exact⟨o2,Ks.1 b o2 (hB b o2 q2 hb (.inr ⟨o1,q1⟩))⟩
 ·obtain⟨m1,e1⟩:=I.base.vK b ps q
  obtain⟨m2,e2⟩:=un.vK b _ e1
  exact⟨m1++m2,by rw[e2,Array.append_assoc]⟩
 ·refine(iC a u ha).qU (λb v hb q=>?_) (λ_ z=>z) λ_ _ z=>z
  rcases hb with z|z
  ·rw[z] at q ⊢;exact Bh a v u q ha
  ·exact Bh b v _ q z
 ·have all:∀o1,s'.heap.get? b=some o1->b∉tm X.stack->((∃u,H' b=some u)\/∃o',s.heap.get? b=some o')->B.get? b=some o:=λo1 q1 nf c=>by
   have z:=hB b o1 q1 nf c
   have z2:=Ks.1 b o1 z
   have hb:OY.get? b=some o:=hb
   rw[hb] at z2;cases z2
   exact z
  rcases hc with⟨u,hu⟩|⟨o',qr⟩
  ·obtain⟨o1,q1⟩:=(iC b u hu).ex
   exact all o1 q1 (MS b u hu) (.inl ⟨u,hu⟩)
  ·obtain⟨o1,q1⟩:=I.base.there b o' qr (sR b)
   obtain⟨o2,q2⟩:=un.there b o1 q1 (by simp)
   exact all o2 q2 (I.KL qr nb) (.inr ⟨o1,q1⟩)
 ·cases q:X.s₀.heap.get? e with
  | none=>rfl
  | some o=>
   obtain⟨o1,q1⟩:=I.base.there e o q (sR e)
   rw[new] at q1;cases q1
theorem Ir(I:Inv X b_ Z H s)(bd:Bd X)(F:QN X.prog X.w X.stack H H' s s' e C) :
  wpAny M X.A (leaving X.env (.ref e)) (λ_ Fp=>QN X.prog X.w X.outer X.H₀ H' X.s₀ Fp e C) E s':=by
 obtain⟨B,t,fl,hB⟩:=F.fl
 have Y1:=fl
 rw[bd.stack] at Y1
 refine wpAny_leaves_onW (by rw[I.ok.frames,bd.stack]) bd.frame Y1 λOY Ks up=>?_
 exact Iq I bd F.un F.os F.bare F.iC hB fl.2.2.1 Ks up F.new F.free
theorem EG{vs:List Value}{h':Heap}(I:Inv X b_ Z H s)(bd:Bd X)(hx:Heap.MadeExcOf s.heap h' e (.ref C) vs) :
  wpAny M X.A (leaving X.env (.ref e)) (λ_ Fp=>QN X.prog X.w X.outer X.H₀ H X.s₀ Fp e C) E {s with heap:=h'}:=by
 have MT:∀env∈X.stack,∀b,env.frame=some b->b∈tm X.stack:=λenv he b hb=>abP.mpr ⟨env,he,hb⟩
 have hF:=W.funFrames_hide I.stack MT
 have VV:H e=none:=by
  cases q:H e with
  | none=>rfl
  | some u=>
   obtain⟨o,ho⟩:=(I.iC e u q).ex
   rw[hx.new] at ho;cases ho
 have un:Un (tm X.stack) [] H H s.heap h':=Un.kept hx.keeps
 have hB:∀b o,h'.get? b=some o->b∉tm X.stack->((∃u,H b=some u)\/∃o',s.heap.get? b=some o')->(W.hideAll s.heap (tm X.stack)).get? b=some o:=λb o hb nf c=>by
  have:∃o',s.heap.get? b=some o':=by
   rcases c with⟨u,hu⟩|c
   ·exact(I.iC b u hu).ex
   ·exact c
  obtain⟨o',qr⟩:=this
  have z:=hx.keeps b o' qr
  rw[hb] at z;cases z
  exact W.hideAll_get _ qr nf
 have hF2:h'.FunFrames (W.hideAll s.heap (tm X.stack)) X.stack:=hF.of_keeps λb o ho _=>⟨o,hx.keeps b o ho,rfl⟩
 refine wpAny_leaves_madeW (base:=W.hideAll s.heap (tm X.stack)) (h:=s.heap) (by rw[I.ok.frames,bd.stack]) bd.frame (λb o q=>W.of_hideAll _ q) (by rw[<-bd.stack];exact hF) hx λOY t Ks tup nt up=>?_
 exact Iq (s':={s with heap:=h'}) I bd un rfl I.bare (I.iC.kept hx.keeps) hB hF2 Ks up hx.new VV
structure Bx(X:Cx)(E:XK):Prop where
 bd:Bd X
 calm:X.calm=true
 xe:∀ev s',wpAny (model X.prog X.w) X.A (leaving X.env ev) (λ_ Fp=>xU X.prog X.w X.outer X.H₀ X.s₀ E ev Fp) (λe' Fp=>xU X.prog X.w X.outer X.H₀ X.s₀ E e' Fp) s'->X.xe ev s'
theorem bx{P:Program}{w:World}{K:Qqy}{mg:Qqx}{base:Heap}{N:List Str}{qual:Str}{scope:Scope}{f:Addr}{cd:Value}{A:Around}{outer:List Env}{s:Shared}{H:Hp}{E:XK} :
 Bx (vR (xU P w) P w K mg base N qual scope f cd A outer s H E) E:=⟨⟨rfl,rfl,rfl⟩,rfl,λ_ _ h=>h⟩
theorem MD{EX:XK}(b:Bx X EX):Passes (xU X.prog X.w) X EX:=λb_ Z H s ev s' I ⟨e,C,H',he,F,q⟩=>by
 subst he
 exact b.xe _ _ (iX (Ir I b.bd F) λ_ Fp F'=>⟨e,C,H',rfl,F',q⟩)
theorem QO{P:Program}{w:World}{K:Qqy}{mg:Qqx}{base:Heap}{N:List Str}{qual:Str}{scope:Scope}{f:Addr}{cd:Value}{A:Around}{outer:List Env}{s:Shared}{H:Hp}{E:XK} :
 PassesOwn (model P w) (vR (xU P w) P w K mg base N qual scope f cd A outer s H E).A (vR (xU P w) P w K mg base N qual scope f cd A outer s H E).env (vR (xU P w) P w K mg base N qual scope f cd A outer s H E).xe:=PassesOwn.leaving
structure Exc(K:Qqy)(mg:Qqx)(x:Str)(C:Addr):Prop where
 m:mg x=some (.ref C)
 q:W.excIn K C [.type "ValueError",.type "Exception",.type "BaseException",.type "object"] "ValueError.__new__"=true
def NU(C:Addr)(EX:XK)(ta:TE):TS:=λ_ Z H=>ta Z H λ_ H1=>EX (.ref C) none H1
theorem K7{K:Qqy}{h:Heap}{C:Addr}{Y2:List Value}{newId:String}(X:K.In h)(q:W.excIn K C Y2 newId=true):∃bm N nm q bs hdct sn sub ab col dd k0 k1 k2 k3 k5 mN,h.get? C=some (excClassObj nm q C N bs bm hdct sn sub ab col dd k0 k1 k2 k3 k5 newId)/\h.Ns N mN/\mN "__init__"=none/\OwnTail h Y2 bm:=by
 unfold W.excIn at q
 split at q
 ·rename_i dd cd sl ho
  split at q
  ·rename_i C' bm k0 k1 k2 k3 n k5 hm hs
   simp only [aaW,abN,Bool.not_eq_true'] at q
   obtain⟨⟨⟨⟨⟨rfl,rfl⟩,RT⟩,ht⟩,iC⟩,TU⟩:=q
   obtain⟨nm,bs,mro,ns,qn,hd,sn,sub,ab,col,del⟩:=cd
   dsimp only at hm RT iC TU
   subst hm RT
   have VW:sl=#[k0,k1,k2,k3,some (.builtin n),k5]:=by
    obtain⟨l⟩:=sl
    simp only at hs
    rw[hs]
   subst VW
   exact⟨bm,ns,nm,qn,bs,hd,sn,sub,ab,col,dd,k0,k1,k2,k3,k5,_,X _ _ ho,.of_isNs (W.isNs_of_in X iC),W.nsMap_none_of_in X iC TU,W.tail_of_in X ht⟩
  ·cases q
 ·cases q
theorem nJ{EX:XK}{x:Str}{a:Expr}{ta:TE}{np kY pos:Pos}(b:Bx X EX)(O:Exc X.K X.mg x C)(hg:Gl X x)(ha:PE X a ta)
  (Fo:(x ==("__debug__":Str))=false:=by decide) (hs:starEach [a] X.env=[(false,eval a X.env)]:=by rfl):PS X (.Raise (some (.Call (.Name x np) [a] [] kY)) none pos) (NU C EX ta):=by
 intro b_ s Z H D I h
 obtain⟨bm,N,nm,q,bs,hdct,sn,sub,ab,col,dd,k0,k1,k2,k3,k5,mN,hC,hN,TU,T⟩:=K7 I.ok.mod.Py O.q
 refine wpAny_Raise_call_subT (C:=C) (nm:=nm) (q:=q) (N:=N) (bs:=bs) (bm:=bm) (hdct:=hdct) (sn:=sn) (sub:=sub) (ab:=ab) (col:=col) (dd:=dd) (k0:=k0) (k1:=k1) (k2:=k2) (k3:=k3) (k5:=k5)
  PySem.F.excBase_ValueError (mN:=mN) (T.hasType (by decide)) (I.ok.hd b.calm) (by rw[hs];rfl) TU (uA I hg O.m ⟨rfl,?_⟩ Fo)
 rw[hs]
 refine abD ?_
 refine abd (iX (ha b_ s Z H _ I h) λu s1 iG=>?_)
 obtain⟨y,H1,I1,r1,q1⟩:=iG
 refine abw ?_
 have hk:=I1.bk
 refine⟨rfl,by show 1<=sizeLine;decide,hk _ _ hC,hN.keeps hk,T.keeps hk,λh' e hm=>?_⟩
 exact b.xe _ _ (iX (EG I1 b.bd hm) λ_ Fp F=>⟨e,C,H1,rfl,F,q1⟩)
end
section
variable{P:Program}{w:World}{K:Qqy}{mg:Qqx}{base:Heap}
theorem xc.Tz{x qual:Str}{st:Stmt}{f:Addr}{fd:FuncData}{N ps:List Str}{k:Nat}{sp:Sp}(F:xc K x qual st f fd)(S:gs N ps (f_ st))(len:∀vs H Q E,sp vs H Q E->vs.length=ps.length)
  (vI:∀(jv:Value)(A:Around)(outer:List Env)(s:Shared)(H:Hp)(vs:List V)(Q:VK)(E:XK),ke k (A.deeper (envOfC qual (f_ st) s.heap.objs.size f jv))->sp vs H Q E->
   ∃t,Ek (vR (xU P w) P w K mg base N qual (f_ st) f jv A outer s H E) (kQ st) t/\t {nx:=λ_ H'=>Q .jb H',rt:=Q} (start N vs) H):iq P w K mg base (xU P w) (k+1) f fd ps sp:=by
 obtain⟨oc,od,kV,doc,pm,an,jv,ct,HF,rfl,lk,Bg⟩:=F.ex
 exact Mx lk Bg S len λA outer s H vs Q E hr Kw=>vI jv A outer s H vs Q E hr Kw
theorem iq.K8{k:Nat}{f:Addr}{fd:FuncData}{ps:List Str}{sp:Sp}(F:iq P w K mg base (xU P w) k f fd ps sp):iq P w K mg base lN k f fd ps (λvs H Q _=>sp vs H Q E0):=
 ⟨λvs H Q E h=>F.len vs H Q E0 h,λA outer s H args us vs Q E hr e0 hb hv hs=>acd (F.run A outer s H args us vs Q E0 hr e0 hb hv hs) λr s' h=>by
  cases r with
  | error e=>obtain⟨_,_,_,_,_,z⟩:=h;exact z
  | ok fl=>cases fl<;>exact h⟩
end
section
variable{X:Cx}
def PF(X:Cx)(k:Nat)(es:List Expr)(t:TE):Prop:=
 ∀(acc:Str)(b_:Qqz)(s:Shared)(Z:St)(H:Hp)(Q:VK),acc.length<=k*1048576->Inv X b_ Z H s->t Z H Q->wpAny (model X.prog X.w) X.A (joinParts acc (evalEach es X.env)) (EP X b_ Z Q) X.xe s
def tFn:TE:=λ_ H Q=>∀x,Q (.str x) H
def tFc(te t:TE):TE:=λZ H Q=>te Z H λv H1=>∃y,v=.str y/\y.length<=1048576/\t Z H1 Q
theorem ua{k:Nat}(hk:k<=8:=by decide):PF X k [] tFn:=λacc b_ s Z H Q hl I h=>
 joinParts_nil (hsz:=by have:sizeLine=16777216:=rfl;omega) ⟨.str acc,H,I.tok _,⟨_,rfl⟩,h acc⟩
theorem je{k:Nat}{e:Expr}{es:List Expr}{te t:TE}(he:PE X e te)(hr:PF X (k+1) es t)(hk:k<=7:=by decide)(hs:evalEach (e::es) X.env=eval e X.env::evalEach es X.env:=by rfl):PF X k (e::es) (tFc te t):=by
 intro acc b_ s Z H Q hl I h
 rw[hs]
 refine joinParts_cons (iX (he b_ s Z H _ I h) λu s1 iG=>?_)
 obtain⟨v,H1,I1,r1,y,ev,hy,q⟩:=iG
 subst ev
 obtain⟨t',rfl⟩:=r1
 have e1:(acc++y).length=acc.length+y.length:=strLen_append ..
 exact⟨by rw[e1];have:sizeLine=16777216:=rfl;omega,hr (acc++y) b_ s1 Z H1 Q (by rw[e1];omega) I1 q⟩
theorem pX{e1 e2:Expr}{es:List Expr}{t:TE}{pos:Pos}(h:PF X 0 (e1::e2::es) t):PE X (.JoinedStr (e1::e2::es) pos) t:=λb_ s Z H Q I hq=>by
 rw[arm_eval_JoinedStr]
 exact h Str.empty b_ s Z H Q (by decide) I hq
def tFr(te:TE):TE:=λZ H Q=>te Z H λv H1=>∃x,v=.str x/\(reprText x).length<=1048576/\Q (.str (reprText x)) H1
theorem ub{e:Expr}{te:TE}{pos:Pos}(he:PE X e te):PE X (.FormattedValue e 114 none pos) (tFr te):=by
 intro b_ s Z H Q I h
 refine wpAny_FormattedValue_repr (iX (he b_ s Z H _ I h) λu s1 iG=>?_)
 obtain⟨v,H1,I1,r1,x,ev,hy,q⟩:=iG
 subst ev
 obtain⟨t',rfl⟩:=r1
 have hz:(reprText x).length<=sizeLine:=aao hy (by decide)
 refine wpAny_pyReprObj_str (hsz:=hz) ?_
 exact formatField_str (λY0 tk=>⟨.str (reprText x),H1,I1.tok _,⟨_,rfl⟩,q⟩) hz
end
section
variable{X:Cx}{b_:Qqz}{Z:St}{H:Hp}{s:Shared}{tg:Expr}
def Aa(X:Cx)(d:Addr):Prop:=∀o u,X.H₀ d≠some (.oh o u)
theorem Iu{u:HO}(mu:Mq (some u)):(∀xs,u≠.tup xs)/\(∀o v,u≠.oh o v)/\(∀ps,u≠.Kn ps)/\∀x,u≠.own x:=by
 cases u<;>first|exact False.elim mu|exact⟨(λ_ z=>nomatch z),(λ_ _ z=>nomatch z),(λ_ z=>nomatch z),(λ_ z=>nomatch z)⟩
theorem Inv.NV{d:Addr}{u:HO}(I:Inv X b_ Z H s)(hd:H d=some u)(mu:Mq (some u)):Aa X d:=λo v z=>by
 have:=I.base.tV d o v z
 rw[hd] at this
 exact(Iu mu).2.1 o v (aal this)
theorem Inv.Iv{d:Addr}{u v:HO}(I:Inv X b_ Z H s)(hd:H d=some u)(nt:∀xs,u≠.tup xs)(nb:∀ps,u≠.Kn ps)(no:∀x,u≠.own x)(nf:Aa X d)(new:iR X.prog X.w (upd H d v) s.heap d v):Inv X b_ Z (upd H d v) s:=by
 have ne:∀b,H b=none->b≠d:=λb e z=>by rw[z,hd] at e;cases e
 refine⟨I.ok,I.os,I.bare,⟨I.base.keep,I.base.slot,λb o q n hx=>by rw[de (ne b (I.base.free b o q n hx))];exact I.base.free b o q n hx,I.base.there,λb xs q=>?_,λb o w q=>?_,λb ps q=>?_⟩,I.loc,I.cell,by rw[de (ne _ I.free)];exact I.free,λx c e=>by rw[de (ne _ (I.oj x c e))];exact I.oj x c e,λp hp=>?_,λb o e=>?_,I.len⟩
 ·have z:=I.base.pT b xs q
  have:b≠d:=λy=>by rw[y,hd] at z;exact nt xs (aal z)
  rw[de this];exact z
 ·have z:=I.base.tV b o w q
  have:b≠d:=λy=>by rw[y] at q;exact nf o w q
  rw[de this];exact z
 ·obtain⟨m,z⟩:=I.base.vK b ps q
  have:b≠d:=λy=>by rw[y,hd] at z;exact nb _ (aal z)
  exact⟨m,by rw[de this];exact z⟩
 ·obtain⟨e1,e2,e3⟩:=I.pin p hp
  exact⟨e1,by rw[de (ne _ e2)];exact e2,e3⟩
 ·by_cases hb:b=d
  ·subst hb;rw[a_] at e;cases e;exact new
  ·rw[de hb] at e
   refine(I.iC b o e).qU (λ_ _ _ q=>q) (λc q=>?_) λc xs q=>?_
   ·have:c≠d:=λy=>by rw[y,hd] at q;exact no _ (aal q)
    rw[de this];exact q
   ·have:c≠d:=λy=>by rw[y,hd] at q;exact nt _ (aal q)
    rw[de this];exact q
theorem Inv.frozen{d:Addr}{u:HO}(I:Inv X b_ Z H s)(hd:H d=some u)(mu:Mq (some u)):∃o,s.heap.get? d=some o/\Inv X b_ Z (upd H d (.oh o u)) s:=by
 obtain⟨o,ho⟩:=(I.iC d u hd).ex
 obtain⟨m1,m2,m3,m4⟩:=Iu mu
 refine⟨o,ho,I.Iv hd m1 m3 m4 (I.NV hd mu) ⟨ho,?_⟩⟩
 refine(I.iC d u hd).qU (λ_ _ _ q=>q) (λc q=>?_) λc xs q=>?_
 ·have:c≠d:=λy=>by rw[y,hd] at q;exact m4 _ (aal q)
  rw[de this];exact q
 ·have:c≠d:=λy=>by rw[y,hd] at q;exact m1 _ (aal q)
  rw[de this];exact q
theorem Inv.yM{d:Addr}{o:Obj}{u:HO}(I:Inv X b_ Z H s)(hd:H d=some (.oh o u))(nf:Aa X d):Inv X b_ Z (upd H d u) s:=by
 refine I.Iv hd (λ_ z=>by cases z) (λ_ z=>by cases z) (λ_ z=>by cases z) nf ?_
 obtain⟨_,q⟩:=(show iR X.prog X.w H s.heap d (.oh o u) from I.iC d _ hd)
 refine q.qU (λ_ _ _ q=>q) (λc q=>?_) λc xs q=>?_
 ·have:c≠d:=λy=>by rw[y,hd] at q;cases q
  rw[de this];exact q
 ·have:c≠d:=λy=>by rw[y,hd] at q;cases q
  rw[de this];exact q
def QP(X:Cx)(t:TE):TE:=λZ H Q=>t Z H λv H2=>∃d o u,H2 d=some (.oh o u)/\Aa X d/\Q v (upd H2 d u)
theorem K9{e:Expr}{t:TE}(h:PE X e t):PE X e (QP X t):=λb_ s Z H Q I hq=>
 iX (h b_ s Z H _ I hq) λv s' ⟨x,H',I',r,d,o,u,hd,nf,q⟩=>⟨x,_,I'.yM hd nf,r,q⟩
def Ends.Vc(X:Cx)(D:Ends):Ends where
 nx:=λZ H2=>∃d o u,H2 d=some (.oh o u)/\Aa X d/\D.nx Z (upd H2 d u)
 rt:=λv H2=>∃d o u,H2 d=some (.oh o u)/\Aa X d/\D.rt v (upd H2 d u)
 bk:=λZ H2=>∃d o u,H2 d=some (.oh o u)/\Aa X d/\D.bk Z (upd H2 d u)
 ct:=λZ H2=>∃d o u,H2 d=some (.oh o u)/\Aa X d/\D.ct Z (upd H2 d u)
theorem By{st:Stmt}{t:TS}(h:PS X st t):PS X st (λD Z H=>t (D.Vc X) Z H):=λb_ s Z H D I hq=>iX (h b_ s Z H _ I hq) λf s' q=>by
 cases f with
 | next=>obtain⟨Z',H',I',d,o,u,hd,nf,q⟩:=q;exact⟨Z',_,I'.yM hd nf,q⟩
 | brk=>obtain⟨Z',H',I',d,o,u,hd,nf,q⟩:=q;exact⟨Z',_,I'.yM hd nf,q⟩
 | cont=>obtain⟨Z',H',I',d,o,u,hd,nf,q⟩:=q;exact⟨Z',_,I'.yM hd nf,q⟩
 | ret v=>obtain⟨x,Z',H',I',r,d,o,u,hd,nf,q⟩:=q;exact⟨x,Z',_,I'.yM hd nf,r,q⟩
theorem FO{H:Hp}{d p:Addr}{u f o:HO}(hd:H d=some u)(hp:p≠d):upd (upd (upd H d f) p o) d u=upd H p o:=by
 funext b
 by_cases h1:b=d
 ·subst h1;rw[a_,de (abE hp),hd]
 ·rw[de h1]
  by_cases h2:b=p
  ·subst h2;rw[a_,a_]
  ·rw[de h2,de h2,de h1]
theorem GQ{H:Hp}{d:Addr}{u f:HO}(hd:H d=some u):upd (upd H d f) d u=H:=by
 rw[KH]
 funext b
 by_cases h1:b=d
 ·subst h1;rw[a_,hd]
 ·rw[de h1]
noncomputable def Vd(d:Addr)(o:Obj)(kvs:List (Key×V)):It:=
 ⟨λi H=>H d=some (.oh o (.dK kvs))/\i<kvs.length,λi H x H'=>H'=H/\∃k v,kvs[i]?=some (k,v)/\x=kV k,λi H=>H d=some (.oh o (.dK kvs))/\kvs.length<=i⟩
theorem FP{P:Program}{w:World}{k:Key}{u:Value}(h:(ja P w).is k u=true):RelV (kV k) u:=by
 rcases jk (show yr k u=true from h) with⟨i,t,rfl,rfl⟩|⟨x,t,rfl,rfl⟩
 ·exact⟨t,rfl⟩
 ·exact⟨t,rfl⟩
theorem Iw{P:Program}{w:World}{h:Heap}{d:Addr}{o:Obj}{kvs:List (Key×V)}{es:Array DictEntry}{ep:Nat}(hd:o.data=.dict es ep)(q:iR P w H h d (.oh o (.dK kvs))):(d ==sysModules)=false/\kvs.length<=sizeLine/\∃vs,KV kvs vs/\h.DictAt (ja P w) d vs ep:=by
 obtain⟨ho,hz,hs,vs,kv,o',es',MN,qr,h1,h2,h3⟩:=q
 rw[ho] at qr;cases qr
 rw[hd] at h2;cases h2
 exact⟨hs,hz,vs,kv,o,es,ho,h1,hd,h3⟩
theorem KV.at{Z:Type}{kvs:List (Z×V)}{vs:List (Z×Value)}(r:KV kvs vs):∀{i:Nat} {k:Z} {u:Value},vs[i]?=some (k,u)->∃v,kvs[i]?=some (k,v)/\RelV v u:=by
 induction r with
 | nil=>intro i k u e;simp at e
 | cons f t ih=>
  intro i k u e
  cases i with
  | zero=>
   simp at e
   subst e
   exact⟨_,aaQ some (Prod.ext f.1 rfl),f.2⟩
  | succ i=>
   obtain⟨v,h1,h2⟩:=ih (by simpa using e)
   exact⟨v,by simpa using h1,h2⟩
theorem GR{P:Program}{w:World}{K:Qqy}(d it:Addr)(o:Obj)(es:Array DictEntry)(ep:Nat)(kvs:List (Key×V))(JY:o.data=.dict es ep):Turn P w K tg (Vd d o kvs) [it] it (λi h=>h.IsKeyIter it d i kvs.length ep) where
 mem:=by simp
 obj:=λi h st b hb=>by
  have e:b=it:=by simpa using hb
  subst e
  obtain⟨o,e,c,d⟩:=st
  exact⟨o,e,λv z=>by rw[d] at z;cases z⟩
 keep:=λi h h' st k=>st.at λo e=>k it (by simp) o e
 item:=by
  intro X hP hw hK hc i b_ s Z H E I hf st hg
  subst hP hw hK
  obtain⟨hd,hi⟩:=hg
  obtain⟨_,_,vs,kv,da⟩:=Iw JY (I.iC d _ hd)
  have hl:kvs.length=vs.length:=kv.length
  have yq:i<vs.length:=by omega
  obtain⟨⟨k,u⟩,hx⟩:∃p,vs[i]?=some p:=⟨vs[i],by simp[yq]⟩
  obtain⟨v,hv,_⟩:=kv.at hx
  obtain⟨f0,f1,f2,f3,f4,f5⟩:=hf it (by simp)
  rw[hl] at st
  refine wpAny_pyNext_dict_item st da hx λkey h' OR wO sb=>?_
  have I1:Inv X b_ Z H {s with heap:=h'}:=I.turned (t':=s.toks) (λb o hb e=>(sb.2 b hb).trans e) f0 f1 f3 f4 f5
  obtain⟨o',e,c,dd⟩:=id wO
  exact⟨key,rfl,yw (s:={s with heap:=h'}) e c dd (by decide) ⟨kV k,H,I1,FP OR,⟨rfl,k,v,hv,rfl⟩,by rw[hl];exact wO,λb hb=>(hf b hb).1⟩⟩
 done:=by
  intro X hP hw hK hc i b_ s Z H E I hf st hg
  subst hP hw hK
  obtain⟨hd,hi⟩:=hg
  obtain⟨_,_,vs,kv,da⟩:=Iw JY (I.iC d _ hd)
  have hl:kvs.length=vs.length:=kv.length
  obtain⟨f0,f1,f2,f3,f4,f5⟩:=hf it (by simp)
  rw[hl] at st
  exact wpAny_pyNext_dict_end (I.ok.hd hc) st da (by simp;omega) λh' eb=>⟨rfl,I.turned (t':=s.toks) (λb o hb e=>eb b o hb e) f0 f1 f3 f4 f5⟩
 self:=λ_ _ _ _ _ st h=>wpAny_pyIter_keyiter st h
def QQ(X:Cx)(td:TE):TI:=λZ H R=>td Z H λx H1=>∃d kvs,x=.ref d/\H1 d=some (.dK kvs)/\∀o,Aa X d->R (Vd d o kvs) (upd H1 d (.oh o (.dK kvs)))
theorem K_{l:Expr}{td:TE}(hl:PE X l td):PI X tg l (QQ X td):=by
 intro b_ s Z H R I h
 refine iX (hl b_ s Z H _ I h) λv s1 iG=>?_
 obtain⟨x,H1,I1,r1,q1⟩:=iG
 obtain⟨d,kvs,e,hd,q⟩:=q1
 subst e
 cases r1
 have nf:=I1.NV hd True.intro
 obtain⟨o,ho,I2⟩:=I1.frozen hd True.intro
 obtain⟨_,hs,vs,kv,o',es,ep,qr,h1,h2,h3⟩:=(show iR X.prog X.w H1 s1.heap d (.dK kvs) from I1.iC d _ hd)
 rw[ho] at qr;cases qr
 refine wpAny_pyIter_dict (kvs:=vs) (ep:=ep) hs ⟨o,es,ho,h1,h2,h3⟩ ?_
 refine⟨s1.heap.objs.size,[s1.heap.objs.size],_,_,_,rfl,I2.kept (t':=s1.toks) λb o e=>Ve _ e,GR d _ o es ep kvs h2,⟨_,YK _ rfl,rfl,by rw[kv.length];rfl⟩,λb hb=>?_,q o nf⟩
 have e:b=s1.heap.objs.size:=by simpa using hb
 subst e
 exact I2.xS (Vb _) (I2.iC.fresh (Vb _))
theorem La{d:Addr}{o:Obj}{kvs:List (Key×V)}{g:TG}{tt:TT}{te:TE}{Q:List V->Hp->Prop}{Z:St}{H:Hp}(hn:kvs.length<=sizeLine)(Pv:Nat->List V->St->Hp->Prop)(h0:Pv 0 [] Z H)(hl:∀i ys Z H,Pv i ys Z H->H d=some (.oh o (.dK kvs))/\ys.length<=i)
  (hs:∀i k v ys Z H,kvs[i]?=some (k,v)->Pv i ys Z H->g (kV k) Z H λZ2 H2=>tt Z2 H2 λb H3=>if b=true then te Z2 H3 λv H4=>Pv (i+1) (ys++[v]) Z2 H4 else Pv (i+1) ys Z2 H3)
  (hd:∀ys Z H,Pv kvs.length ys Z H->Q ys H):GO g tt te (Vd d o kvs) Q Z H:=by
 refine⟨λi m ys Z H=>m=kvs.length-i/\i<=kvs.length/\Pv i ys Z H,⟨kvs.length,by simp,aaI _,h0⟩,?_⟩
 rintro i m ys Z H ⟨rfl,hi,p⟩
 obtain⟨q,hy⟩:=hl i ys Z H p
 by_cases j9:i<kvs.length
 ·refine .inr ⟨⟨q,j9⟩,by omega,Pv (i+1),λPZ Z' H' p'=>⟨kvs.length-(i+1),by omega,rfl,j9,p'⟩,λx H' y=>?_⟩
  obtain⟨e,k,v,y,rfl⟩:=y
  subst e
  exact hs i k v ys Z _ y p
 ·have e:i=kvs.length:=by omega
  subst e
  exact .inl ⟨⟨q,Vb _⟩,by omega,hd ys Z H p⟩
theorem o8{Z Y:Type}{F:Z->Y->Prop}:∀{xs:List Z} {ys:List Y},xs.length=ys.length->(∀(i:Nat) a b,xs[i]?=some a->ys[i]?=some b->F a b)->Paired F xs ys
 | [],[],_,_=>.nil
 | [],_::_,e,_=>by simp at e
 | _::_,[],e,_=>by simp at e
 | x::xs,y::ys,e,h=>.cons (h 0 x y rfl rfl) (o8 (by simpa using e) λi a b ha hb=>h (i+1) a b (by simpa using ha) (by simpa using hb))
theorem yN(hc:X.calm=true):qE X (.type "list") (λxs H Q=>∃d kvs,xs=[V.ref d]/\H d=some (.dK kvs)/\∀p,H p=none->Q (.ref p) (upd H p (.lst (kvs.map λkv=>kV kv.1)))):=by
 intro b_ s Z H xs us Q I r h
 obtain⟨d,kvs,rfl,hd,q⟩:=h
 obtain⟨u,rfl,ru⟩:=vals1 r
 cases (show u=Value.ref d from ru)
 obtain⟨hz,hs,vs,kv,o,es,ep,ho,h1,h2,h3⟩:=(show iR X.prog X.w H s.heap d (.dK kvs) from I.iC d _ hd)
 have hl:kvs.length=vs.length:=kv.length
 refine W.kdl_call (W.kdl_dict (knd:=ja X.prog X.w) (kvs:=vs) (ep:=ep) hs) (I.ok.hd hc) ⟨o,es,ho,h1,h2,h3⟩ (by omega) λh' tk acc c hk hS tf=>?_
 have hf:H s.heap.objs.size=none:=I.iC.fresh (Vb _)
 have rel:Vals (kvs.map λkv=>kV kv.1) acc.toList:=by
  refine o8 (by rw[QU];have:acc.toList.length=acc.size:=aaB;rw[this,tf.1];exact hl) λi a b ha hb=>?_
  obtain⟨k,x,Gk,hi⟩:=tf.2 i b (by rw[<-aaL];exact hb)
  obtain⟨v,hv,_⟩:=kv.at Gk
  rw[YI,hv] at ha
  cases ha
  exact FP hi
 refine⟨.ref s.heap.objs.size,upd H s.heap.objs.size (.lst (kvs.map λkv=>kV kv.1)),I.laid (t':=tk) hk (Vb _) ?_,rfl,q _ hf⟩
 exact⟨by rw[QU];exact hz,acc.toList,c,rel,by rw[abV];exact hS⟩
end
section
variable{X:Cx}{CX:FG}{k:Nat}{f C:Addr}{fd:FuncData}{ps:List Str}{sp:Sp}{yo:List V}{ds:List Value}{E:XK}{x m:Str}{p pos apos:Pos}{e o:Expr}{es:List Expr}{ta:TE}{t:TA}{Z₀:St}
end
section
variable{X:Cx}{b_ pn:Qqz}{Z:St}{H:Hp}{s:Shared}{E:Qqq}{e:Addr}
end
section
variable{X:Cx}{b_:Qqz}{Z:St}{H:Hp}{s:Shared}{M:Model}{A:Around}{E:Qqq}
end
section
variable{P:Program}{w:World}{K:Qqy}{mg:Qqx}{base:Heap}
end
section
variable{X:Cx}{k:Nat}{f:Addr}{fd:FuncData}{ps:List Str}{sp:Sp}{x:Str}{p pos:Pos}{e:Expr}{es:List Expr}{t:TA}
end
open PySem PySem.Spec PyProof.Rows PySem.W PySem.Builtin PySem.Builtin.ObjectAttr PySem.Builtin.Getset_descriptor
section
variable{K:Qqy}{e C:Addr}{prog:Program}{w:World}{A:Around}{E:Qqq}{h:Heap}{g:Array GenState}{d:Drawn}{t:Nat}{os:OsState}
end
theorem kL{xs:List V}(h:xs.length<=15:=by simp):xs.length<=sizeLine:=aao h (by decide)
theorem ig{Z:Type}{xs:List Z}{i:Int}{j:Nat}{v:Z}(e:i=(j:Int))(h:xs[j]?=some v):GG xs i=some v:=by subst e;exact KQ h
theorem yO{n:Nat}{i:Int}{j:Nat}(e:i=(j:Int))(h:j<n):HX n i=some j:=by
 subst e
 unfold HX
 rw[aag (by omega),aag (by omega)]
 simp
theorem gg.upd{H H':Hp}{p:Addr}{o:HO}(s:gg H H')(h:H p=none):gg H (L2.upd H' p o):=λb u e=>by rw[de (gc e h)];exact s b u e
theorem gg.new{H H':Hp}{p:Addr}{o:HO}(s:gg H H')(h:H' p=none):gg H (L2.upd H' p o):=s.upd (s.free h)
def Vf(t:TS):TS:=λD Z H=>∃J:St->Hp->Prop,t {D with nx:=J} Z H/\∀Z' H',J Z' H'->D.nx Z' H'
theorem SP.nx{X:Cx}{b_:Qqz}{D:Ends}{J:St->Hp->Prop}{f:Flow}{s:Shared}(hJ:∀Z' H',J Z' H'->D.nx Z' H')(h:SP X b_ {D with nx:=J} f s):SP X b_ D f s:=by
 cases f with
 | next=>obtain⟨Z,H,I,q⟩:=h;exact⟨Z,H,I,hJ _ _ q⟩
 | brk=>exact h
 | cont=>exact h
 | ret u=>exact h
theorem nK{X:Cx}{st:Stmt}{t:TS}(h:PS X st t):PS X st (Vf t):=λb_ s Z H D I ⟨J,h1,h2⟩=>iX (h b_ s Z H _ I h1) λf s' q=>SP.nx h2 q
theorem uL{Z:Type}{xs:List Z}{i:Int}(h0:0<=i)(h:i<(xs.length:Int)):∃v,GG xs i=some v/\xs[i.toNat]?=some v:=by
 have hi:i.toNat<xs.length:=by omega
 exact⟨xs[i.toNat],ig (j:=i.toNat) (by omega) (R7 hi),R7 hi⟩
theorem o9{b:Bool}{A B:Prop}(e:b=false)(h:B):if b=true then A else B:=by subst e;exact j_ h
theorem yP{b:Bool}{A B:Prop}(e:b=true)(h:A):if b=true then A else B:=by subst e;exact oM h
theorem mod_lt(a b:Int)(h:0<b):0<=a%b/\a%b<b:=⟨Int.emod_nonneg a (by omega),Int.emod_lt_of_pos a h⟩
abbrev gi(l:List Str):List V:=l.map V.str
theorem i3(xs:List Str)(x:Str):gi xs++[V.str x]=gi (xs++[x]):=by unfold gi;rw[aar];rfl
theorem o_(x y:List Str):gi x++gi y=gi (x++y):=by unfold gi;rw[aar]
theorem ju{l:List Str}{j:Nat}{x:Str}(h:l[j]?=some x):(gi l)[j]?=some (V.str x):=by rw[YI,h];rfl
theorem sy{l:List Str}{j:Nat}{v:V}(h:(gi l)[j]?=some v):∃x,l[j]?=some x/\v=V.str x:=by
 rw[YI] at h
 cases e:l[j]? with
 | none=>rw[e] at h;cases h
 | some x=>rw[e] at h;cases h;exact⟨x,rfl,rfl⟩
theorem QR{A:Around}{k:Nat}(hr:ke k A){n:Nat}(h:n<=60:=by decide):A.units+n+1<cLine:=by have:=hr.units;omega
theorem ip{H:Hp}{a q:Addr}{o u:HO}(hq:H q=none)(h:H a=some o):upd H q u a=some o:=by rw[de (gc h hq)];exact h
theorem Kt{t0 t1:TS}{D:Ends}{Z:St}{H:Hp}(h:let v1:=t1;ir t0 v1 D Z H):ir t0 t1 D Z H:=h
theorem Em{t0 t1 t2:TS}{D:Ends}{Z:St}{H:Hp}(h:let v2:=t2;let v1:=ir t1 v2;ir t0 v1 D Z H):ir t0 (ir t1 t2) D Z H:=h
theorem PJ{t0 t1 t2 t3:TS}{D:Ends}{Z:St}{H:Hp}(h:let v3:=t3;let v2:=ir t2 v3;let v1:=ir t1 v2;ir t0 v1 D Z H):ir t0 (ir t1 (ir t2 t3)) D Z H:=h
theorem ME{t0 t1 t2 t3 t4:TS}{D:Ends}{Z:St}{H:Hp}(h:let v4:=t4;let v3:=ir t3 v4;let v2:=ir t2 v3;let v1:=ir t1 v2;ir t0 v1 D Z H):ir t0 (ir t1 (ir t2 (ir t3 t4))) D Z H:=h
theorem YF{t0 t1 t2 t3 t4 t5:TS}{D:Ends}{Z:St}{H:Hp}(h:let v5:=t5;let v4:=ir t4 v5;let v3:=ir t3 v4;let v2:=ir t2 v3;let v1:=ir t1 v2;ir t0 v1 D Z H):ir t0 (ir t1 (ir t2 (ir t3 (ir t4 t5)))) D Z H:=h
theorem sl7{t0 t1 t2 t3 t4 t5 t6:TS}{D:Ends}{Z:St}{H:Hp}(h:let v6:=t6;let v5:=ir t5 v6;let v4:=ir t4 v5;let v3:=ir t3 v4;let v2:=ir t2 v3;let v1:=ir t1 v2;ir t0 v1 D Z H):ir t0 (ir t1 (ir t2 (ir t3 (ir t4 (ir t5 t6))))) D Z H:=h
theorem sl9{t0 t1 t2 t3 t4 t5 t6 t7 t8:TS}{D:Ends}{Z:St}{H:Hp}(h:let v8:=t8;let v7:=ir t7 v8;let v6:=ir t6 v7;let v5:=ir t5 v6;let v4:=ir t4 v5;let v3:=ir t3 v4;let v2:=ir t2 v3;let v1:=ir t1 v2;ir t0 v1 D Z H):ir t0 (ir t1 (ir t2 (ir t3 (ir t4 (ir t5 (ir t6 (ir t7 t8))))))) D Z H:=h
theorem Vg{t0 t1 t2 t3 t4 t5 t6 t7 t8 t9:TS}{D:Ends}{Z:St}{H:Hp}(h:let v9:=t9;let v8:=ir t8 v9;let v7:=ir t7 v8;let v6:=ir t6 v7;let v5:=ir t5 v6;let v4:=ir t4 v5;let v3:=ir t3 v4;let v2:=ir t2 v3;let v1:=ir t1 v2;ir t0 v1 D Z H):ir t0 (ir t1 (ir t2 (ir t3 (ir t4 (ir t5 (ir t6 (ir t7 (ir t8 t9)))))))) D Z H:=h
theorem NW{w:TI}{g:TG}{b u:TS}{D:Ends}{Z:St}{H:Hp}(h:let v:=b;ir (Nu w g v) u D Z H):ir (Nu w g b) u D Z H:=h
abbrev rr(a:Addr):Option V:=some (.ref a)
abbrev rs(x:Str):Option V:=some (.str x)
abbrev ri(i:Int):Option V:=some (.int i)
section
variable{X:Cx}{tg:Expr}
def PL(x:Str):It:=⟨λi _=>i<x.length,λi H v H'=>H'=H/\∃c,x.cps[i]?=some c/\v=.str ⟨#[c]⟩,λi _=>i=x.length⟩
theorem AW{P:Program}{w:World}{K:PySem.W.Frag}(it:Addr)(ty:String)(x:Str)(t:Tok)(RH:["enumerate","zip","dict_itemiterator","dict_reverseitemiterator","odict_iterator","itertools.zip_longest","itertools.pairwise"].contains ty=false)
  (W:∀A:Around,A.handled=none->Walks P w A it [it] [it] x.cps.size (SignAt x) (λi h=>h.IsStrIter it ty x t i))
  (self:∀(A:Around)(i:Nat)(s:Shared)(Q:Qqq)(E:Qqq),s.heap.IsStrIter it ty x t i->Q (.ref it) s->wpAny (model P w) A (pyIter (.ref it)) Q E s):Turn P w K tg (PL x) [it] it (λi h=>h.IsStrIter it ty x t i) where
 mem:=by simp
 obj:=λi h st b hb=>by
  have e:b=it:=by simpa using hb
  subst e
  obtain⟨o,e,c,d⟩:=st
  exact⟨o,e,λv z=>by rw[d] at z;cases z⟩
 keep:=λi h h' ⟨o,ho,r⟩ k=>⟨o,k it (by simp) o ho,r⟩
 item:=by
  intro X hP hw hK hc i b_ s Z H E I hf st hg
  subst hP hw hK
  obtain⟨f0,f1,f2,f3,f4,f5⟩:=hf it (by simp)
  refine(W X.A (I.ok.hd hc)).item i s _ _ hg st λv h' tk hv wO kk=>?_
  obtain⟨c,t',Bf,rfl⟩:=hv
  have I1:Inv X b_ Z H {s with heap:=h',toks:=tk}:=I.turned (λb o hb e=>kk b o (by simpa using hb) e) f0 f1 f3 f4 f5
  obtain⟨o',e,cc,dd⟩:=id wO
  exact⟨_,rfl,yw (s:={s with heap:=h',toks:=tk}) e cc dd RH ⟨.str ⟨#[c]⟩,H,I1,⟨t',rfl⟩,⟨rfl,c,Bf,rfl⟩,wO,λb hb=>(hf b hb).1⟩⟩
 done:=by
  intro X hP hw hK hc i b_ s Z H E I hf st hg
  subst hP hw hK
  obtain⟨f0,f1,f2,f3,f4,f5⟩:=hf it (by simp)
  have e:i=x.cps.size:=hg
  subst e
  exact(W X.A (I.ok.hd hc)).done s _ _ st λh' tk kk=>⟨rfl,I.turned (λb o hb e=>kk b o (by simpa using hb) e) f0 f1 f3 f4 f5⟩
 self:=self
def QS(te:TE):TI:=λZ H R=>te Z H λv H1=>∃x,v=.str x/\R (PL x) H1
theorem NX{l:Expr}{te:TE}(hl:PE X l te):PI X tg l (QS te):=by
 intro b_ s Z H R I h
 refine iX (hl b_ s Z H _ I h) λv s1 iG=>?_
 obtain⟨y,H1,I1,r1,x,e,q⟩:=iG
 subst e
 obtain⟨t,rfl⟩:=r1
 have fin:∀(ty:String)(T:Turn X.prog X.w X.K tg (PL x) [s1.heap.objs.size] s1.heap.objs.size (λi h=>h.IsStrIter s1.heap.objs.size ty x t i)),
   UN X b_ Z tg R (.ref s1.heap.objs.size) {s1 with heap:=s1.heap.push {cls:=.type ty,data:=.fields #[.str x t,.int 0 0]}}:=λty T=>by
  refine⟨s1.heap.objs.size,[s1.heap.objs.size],_,_,H1,rfl,I1.kept (t':=s1.toks) λb o e=>Ve _ e,T,⟨_,YK _ rfl,rfl,rfl⟩,λb hb=>?_,q⟩
  have e:b=s1.heap.objs.size:=by simpa using hb
  subst e
  exact I1.xS (Vb _) (I1.iC.fresh (Vb _))
 cases ha:x.cps.all (·<128)
 ·exact wpAny_pyIter_wide ha (fin _ (AW _ _ x t (by decide) (λA hh=>Walks.strWide hh _ x t) λ_ _ _ _ _ st h=>wpAny_pyIter_striter_wide st h))
 ·exact wpAny_pyIter_ascii ha (fin _ (AW _ _ x t (by decide) (λA hh=>Walks.strAscii hh _ x t) λ_ _ _ _ _ st h=>wpAny_pyIter_striter_ascii st h))
theorem Iy{x:Str}{g:TG}{tb:TS}{D:Ends}{Z:St}{H:Hp}(Pv:Nat->St->Hp->Prop)(h0:Pv 0 Z H)
  (hs:∀i c Z H,x.cps[i]?=some c->Pv i Z H->g (.str ⟨#[c]⟩) Z H λZ2 H2=>tb {D with nx:=Pv (i+1),ct:=Pv (i+1),bk:=D.nx} Z2 H2) (hd:∀Z H,Pv x.length Z H->D.nx Z H) :
  ∃W:Nat->Nat->St->Hp->Prop,(∃m,W 0 m Z H)/\∀i m Z H,W i m Z H->
   ((PL x).stop i H/\D.nx Z H)\/((PL x).go i H/\∃N:St->Hp->Prop,(∀Z' H',N Z' H'->∃m',m'<m/\W (i+1) m' Z' H')/\∀v H',(PL x).Kr i H v H'->g v Z H' λZ2 H2=>tb {D with nx:=N,ct:=N,bk:=D.nx} Z2 H2):=by
 refine⟨λi m Z H=>m=x.length-i/\i<=x.length/\Pv i Z H,⟨x.length,by simp,aaI _,h0⟩,?_⟩
 rintro i m Z H ⟨rfl,hi,p⟩
 by_cases j9:i<x.length
 ·refine .inr ⟨j9,Pv (i+1),λZ' H' p'=>⟨x.length-(i+1),by omega,rfl,j9,p'⟩,λv H' y=>?_⟩
  obtain⟨e,c,hc,rfl⟩:=y
  subst e
  exact hs i c Z _ hc p
 ·have e:i=x.length:=by omega
  subst e
  exact .inl ⟨rfl,hd Z H p⟩
def tFi(te:TE):TE:=λZ H Q=>te Z H λv H1=>∃i:Int,v=.int i/\i.natAbs.log2<1920/\Q (.str (toString i)) H1
theorem NY{e:Expr}{te:TE}{pos:Pos}(he:PE X e te):PE X (.FormattedValue e (-1) none pos) (tFi te):=by
 intro b_ s Z H Q I h
 refine FormattedValue_plain (iX (he b_ s Z H _ I h) λu s1 iG=>?_)
 obtain⟨v,H1,I1,r1,i,ev,hy,q⟩:=iG
 subst ev
 obtain⟨t',rfl⟩:=r1
 exact formatField_int_small hy ⟨.str (toString i),H1,I1.tok _,⟨_,rfl⟩,q⟩
end
section
variable{X:Cx}{tg:Expr}
def Iz(K:Qqy)(a:Addr)(n:Nat):It:=
 ⟨λi H=>i<n/\∃xs,h_ K H a xs/\xs.length=n,λi H x H'=>H'=H/\∀xs,h_ K H a xs->xs[n-1-i]?=some x,λi _=>i=n⟩
theorem IA{P:Program}{w:World}{K:Qqy}(a it:Addr)(n:Nat):Turn P w K tg (Iz K a n) [it] it (λi h=>h.IsRevIter it a ((n:Int)-1-(i:Nat))) where
 mem:=by simp
 obj:=λi h st b hb=>by
  have e:b=it:=by simpa using hb
  subst e
  obtain⟨o,e,c,d⟩:=st
  exact⟨o,e,λv z=>by rw[d] at z;cases z⟩
 keep:=λi h h' st k=>st.at λo e=>k it (by simp) o e
 item:=by
  intro X hP hw hK hc i b_ s Z H E I hf st hg
  subst hP hw hK
  obtain⟨hi,xs,hq,hl⟩:=hg
  obtain⟨ib,rv,p,hz⟩:=I.list hq
  have hx:xs[n-1-i]?=some xs[n-1-i]:=R7 (by omega)
  obtain⟨u,hu,ru⟩:=rv.get hx
  obtain⟨f0,f1,f2,f3,f4,f5⟩:=hf it (by simp)
  have e1:(n:Int)-1-(i:Nat)=((n-1-i:Nat):Int):=by omega
  rw[e1] at st
  refine wpAny_pyNext_rev_item st p.isList (x:=u) (by simpa using hu) λh' wO sb=>?_
  have e2:((n-1-i:Nat):Int)-1=(n:Int)-1-((i+1:Nat):Int):=by omega
  rw[e2] at wO
  have I1:Inv X b_ Z H {s with heap:=h'}:=I.turned (t':=s.toks) (λb o hb e=>(sb.2 b hb).trans e) f0 f1 f3 f4 f5
  obtain⟨o,e,c,d⟩:=id wO
  exact⟨u,rfl,yw (s:={s with heap:=h'}) e c d (by decide) ⟨_,H,I1,ru,⟨rfl,λys hy=>by rw[I.oZ hy hq];exact hx⟩,wO,λb hb=>(hf b hb).1⟩⟩
 done:=by
  intro X hP hw hK hc i b_ s Z H E I hf st hg
  subst hP hw hK
  have hg:i=n:=hg
  subst hg
  obtain⟨f0,f1,f2,f3,f4,f5⟩:=hf it (by simp)
  have e1:(i:Int)-1-(i:Nat)=-1:=by omega
  rw[e1] at st
  exact wpAny_pyNext_rev_end (I.ok.hd hc) st λh' eb=>⟨rfl,I.turned (t':=s.toks) (λb o hb e=>eb b o hb e) f0 f1 f3 f4 f5⟩
 self:=λ_ _ _ _ _ st h=>wpAny_pyIter_revIter st h
def QT(K:Qqy)(ta:TA):TI:=λZ H R=>ta Z H λvs H1=>∃a xs,vs=[.ref a]/\h_ K H1 a xs/\R (Iz K a xs.length) H1
theorem Lb{a:Expr}{ta:TA}{p pos:Pos}(hg:Gl X "reversed")(hm:X.mg "reversed"=none)(ha:PA X [a] ta)(hs:starEach [a] X.env=[(false,eval a X.env)]:=by rfl):PI X tg (.Call (.Name "reversed" p) [a] [] pos) (QT X.K ta):=by
 intro b_ s Z H R I h
 refine Call_ (lT I hg hm boot_reversed (aaN (iX (ha pos b_ s Z H _ I h) λus s1 iG=>?_) hs rfl))
 obtain⟨vs,H1,I1,r1,q1⟩:=iG
 obtain⟨l,xs,rfl,hq,q⟩:=q1
 obtain⟨u,rfl,ru⟩:=vals1 r1
 cases (show u=Value.ref l from ru)
 obtain⟨ib,rv,pp,hz⟩:=I1.list hq
 have hl:=rv.length
 refine call_reversed_list pp.isList ?_
 have I2:Inv X b_ Z H1 {s1 with heap:=s1.heap.push (revObj l ((ib.toArray.size:Int)-1))}:=I1.kept (t':=s1.toks) λb o e=>Ve _ e
 have st:(s1.heap.push (revObj l ((ib.toArray.size:Int)-1))).IsRevIter s1.heap.objs.size l ((xs.length:Int)-1-((0:Nat):Int)):=by
  have e1:(xs.length:Int)-1-((0:Nat):Int)=(ib.toArray.size:Int)-1:=by rw[hl];simp
  rw[e1]
  exact⟨_,YK _ rfl,rfl,rfl⟩
 refine wpAny_pyIter_revIter st ?_
 refine⟨s1.heap.objs.size,[s1.heap.objs.size],_,_,H1,rfl,I2,IA l _ xs.length,st,λb hb=>?_,q⟩
 have e:b=s1.heap.objs.size:=by simpa using hb
 subst e
 exact I1.xS (Vb _) (I1.iC.fresh (Vb _))
theorem Lc{K:PySem.W.Frag}{a:Addr}{xs:List V}{g:TG}{tb:TS}{D:Ends}{Z:St}{H:Hp}(Pv:Nat->St->Hp->Prop)(h0:Pv 0 Z H)(hl:∀i Z H,i<=xs.length->Pv i Z H->h_ K H a xs)
  (hs:∀i x Z H,xs.reverse[i]?=some x->Pv i Z H->g x Z H λZ2 H2=>tb {D with nx:=Pv (i+1),ct:=Pv (i+1),bk:=D.nx} Z2 H2) (hd:∀Z H,Pv xs.length Z H->D.nx Z H) :
  ∃W:Nat->Nat->St->Hp->Prop,(∃m,W 0 m Z H)/\∀i m Z H,W i m Z H->
   ((Iz K a xs.length).stop i H/\D.nx Z H)\/((Iz K a xs.length).go i H/\∃N:St->Hp->Prop,(∀Z' H',N Z' H'->∃m',m'<m/\W (i+1) m' Z' H')/\∀x H',(Iz K a xs.length).Kr i H x H'->g x Z H' λZ2 H2=>tb {D with nx:=N,ct:=N,bk:=D.nx} Z2 H2):=by
 refine⟨λi m Z H=>m=xs.length-i/\i<=xs.length/\Pv i Z H,⟨xs.length,by simp,aaI _,h0⟩,?_⟩
 rintro i m Z H ⟨rfl,hi,p⟩
 have q:=hl i Z H hi p
 by_cases j9:i<xs.length
 ·refine .inr ⟨⟨j9,xs,q,rfl⟩,Pv (i+1),λZ' H' p'=>⟨xs.length-(i+1),by omega,rfl,j9,p'⟩,λx H' y=>?_⟩
  obtain⟨e,y⟩:=y
  subst e
  refine hs i x Z _ ?_ p
  rw[List.getElem?_reverse j9]
  exact y xs q
 ·have e:i=xs.length:=by omega
  subst e
  exact .inl ⟨rfl,hd Z H p⟩
theorem IB{prog:Program}{w:World}{A:Around}{E:Qqq}{s:Shared}{r:Addr}{Q:Bool->Shared->Prop}(hT:s.TypeIs (.ref r) "list_reverseiterator")(h:Q false s):wpAny (model prog w) A (Builtin.List.listLengthHint (.ref r)) Q E s:=by
 have f1:typeLookup (.type "list_reverseiterator") "__len__"=pure none:=by rw[typeLookup_type,builtinLookup_eq_fast];kernel_rfl
 have f2:typeLookup (.type "list_reverseiterator") "__length_hint__"=pure (some (.builtin "list_reverseiterator.__length_hint__")):=by rw[typeLookup_type,builtinLookup_eq_fast];kernel_rfl
 unfold Builtin.List.listLengthHint
 refine Ph (abK hT f1 ?_)
 wp_delta
 refine abi (λCj=>absurd Cj (by decide)) (λ_=>?_)
 refine abi (λCj=>absurd Cj (by decide)) (λ_=>?_)
 refine Ph (abK hT f2 ?_)
 generalize uM:("list_reverseiterator.__length_hint__":String)=VX
 wp_delta
 rw[show splitId VX=some ("list_reverseiterator","__length_hint__") from by subst uM;decide+kernel]
 subst uM
 refine Ph (wpAny_isInstance (T:="list_reverseiterator") (b:=true) hT (by rw[isSubtype_type];kernel_rfl) ?_)
 refine abi (λCj=>absurd Cj (by decide)) (λ_=>?_)
 refine abi (λ_=>?_) (λCj=>absurd (by decide+kernel) Cj)
 refine abi (λCj=>absurd Cj (by decide)) (λ_=>?_)
 exact R8 h
theorem GS{prog:Program}{w:World}{A:Around}{E:Qqq}{s:Shared}{T:String}{r d:Addr}{n:Nat}{P:Nat->Value->Prop}{St:Nat->Heap->Prop}{Q:Qqq}
  (W:Walks prog w A.in1.in1 r [r,d] [r] n P St) (hT:∀h:Heap,St 0 h->∃o,h.get? r=some o/\o.cls=.type T) (hl:(Value.type T ==Value.type "list")=false) (ht:(Value.type T ==Value.type "tuple")=false)
  (hint:∀(A:Around)(E:Qqq)(s:Shared)(Q:Bool->Shared->Prop),St 0 s.heap->Q false s->wpAny (model prog w) A (Builtin.List.listLengthHint (.ref r)) Q E s)
  (self:∀(A:Around)(E:Qqq)(s:Shared)(Q:Qqq),St 0 s.heap->Q (.ref r) s->wpAny (model prog w) A (pyIter (.ref r)) Q E s)
  (hd:d<s.heap.objs.size) (st:St 0 s.heap) (hn:n<=sizeLine)
  (hQ:∀h' tk JZ c',(∀b o,b≠r->s.heap.get? b=some o->h'.get? b=some o)->h'.get? s.heap.objs.size=some {cls:=.type "list",dict:=none,data:=.seq JZ c',slots:=#[]}->ItemsOf P JZ n->Q (.ref s.heap.objs.size) {s with heap:=h',toks:=tk}) :
  wpAny (model prog w) A (call (.type "list") [.ref r]) Q E s:=by
 obtain⟨or,hor,hcr⟩:=hT _ st
 have Fs:r<s.heap.objs.size:=aak hor
 refine callType_codes (Q₁:=λobj s1=>obj=.ref s.heap.objs.size/\s1={s with heap:=s.heap.push {cls:=.type "list",data:=.seq #[]}}) PySem.F.called_list (PySem.F.typeCall_list_1 _) PySem.F.entry_list_init
  (code_list_new _ ⟨rfl,rfl⟩) λobj s1 h₁=>?_
 obtain⟨rfl,rfl⟩:=h₁
 have hS:(s.heap.push {cls:=.type "list",data:=.seq #[]}).get? s.heap.objs.size=some {cls:=.type "list",data:=.seq #[]}:=YK _ rfl
 have VY:s.heap.objs.size≠r:=ab1 Fs
 have Y3:s.heap.objs.size≠d:=ab1 hd
 refine⟨⟨_,hS,rfl⟩,PySem.F.args_list_init_2 _ _,?_⟩
 show wpAny _ _ (do let old <-Builtin.List.listItems (.ref s.heap.objs.size);Builtin.List.listUpdate (.ref s.heap.objs.size) (λ_=>#[]);letGo old.toList.reverse;Builtin.List.listExtendWith (.ref s.heap.objs.size) (.ref r) .none) _ _ _
 refine Ph ?_
 unfold Builtin.List.listItems
 refine Ph (wpAny_seqItems hS rfl (R8 ?_))
 show wpAny _ _ (updateSeq s.heap.objs.size (λ_=>#[]) >>= λ_=>letGo (#[]:Array Value).toList.reverse >>= λ_=>Builtin.List.listExtendWith (.ref s.heap.objs.size) (.ref r) .none) _ _ _
 refine Ph (wpAny_updateSeq hS rfl ?_)
 have MU:=aaS (Obj.mapSeq (λ_=>(#[]:Array Value))) hS rfl
 have MV:∀b o,s.heap.get? b=some o->((s.heap.push {cls:=.type "list",data:=.seq #[]}).update s.heap.objs.size (Obj.mapSeq (λ_=>(#[]:Array Value)))).get? b=some o:=
  λb o e=>(abf _ _ (ab1 (aak e))).trans (Ve _ e)
 refine Ph (wpAny_letGo ?_)
 generalize (s.heap.push {cls:=.type "list",data:=.seq #[]}).update s.heap.objs.size (Obj.mapSeq (λ_=>(#[]:Array Value)))=h2 at MU MV
 have zI:St 0 h2:=W.frame 0 _ _ st λb _ o e=>MV b o e
 have key:∀(h:Heap)(c1 tk:Nat),St 0 h->(∀b o,s.heap.get? b=some o->h.get? b=some o)->
   h.get? s.heap.objs.size=some {cls:=.type "list",data:=.seq #[] c1}->codeAny (model prog w) A.in1 (.builtin "list.extend.loop" ⟨[.ref s.heap.objs.size,.ref r,.none],[]⟩)
    (λr s'=>match r with|.ok (.ret v)=>v=.none/\Q (.ref s.heap.objs.size) s'|.ok _=>False|.error e=>E e s') {s with heap:=h,toks:=tk}:=by
  intro h c1 tk Fn hk VZ
  refine codeAny_extend_loopS W.toS hn s.heap.objs.size (by simp only [V9,ab9,or_false,not_or];exact⟨VY,Y3⟩) .none n 0 _ #[] c1 rfl (aaI _) Fn VZ (ItemsOf.nil _) λs' JZ c' hm Kx tf=>?_
  rw[Moved.eq_with hm]
  refine⟨rfl,hQ s'.heap s'.toks JZ c' (λb o hb e=>hm.heap b o (λAw=>?_) (hk b o e)) Kx tf⟩
  rcases V9.mp Aw with e'|Aw
  ·exact absurd (aak e) (by rw[e'];exact abj _)
  ·exact hb (Sd.mp Aw)
 unfold Builtin.List.listExtendWith
 refine Ph (wpAny_typeOf (T:=T) (hT _ zI) ?_)
 have h1:Builtin.List.listSameRef (.ref s.heap.objs.size) (.ref r)=false:=by simp[Builtin.List.listSameRef,VY]
 simp only [h1,hl,ht,Bool.or_false,aaV,ab3]
 refine Ph (self _ _ _ _ zI ?_)
 refine Ph (aa9 (hint _ _ _ _ zI ?_))
 refine abi (λ_=>?_) (λ_=>R8 ⟨ab6 abT _,key _ _ _ zI MV MU⟩)
 refine Ph (wpAny_rule ?_)
 refine Ph ?_
 show wpAny _ _ (updateSeq s.heap.objs.size (·.push .none) >>= λ_=>updateSeq s.heap.objs.size (·.pop)) _ _ _
 refine Ph (wpAny_updateSeq MU rfl ?_)
 have RU:=aaS (Obj.mapSeq (·.push Value.none)) MU rfl
 refine wpAny_updateSeq (hz:=by seq_fits) RU rfl ?_
 have V0:=aaS (Obj.mapSeq (·.pop)) RU rfl
 have RV:∀b o,b≠s.heap.objs.size->h2.get? b=some o->((h2.update s.heap.objs.size (Obj.mapSeq (·.push Value.none))).update s.heap.objs.size (Obj.mapSeq (·.pop))).get? b=some o:=λb o hb e=>
  (abf _ _ (abE hb)).trans ((abf _ _ (abE hb)).trans e)
 refine R8 ⟨ab6 abT _,key _ _ _ (W.frame 0 _ _ zI λb hb o e=>RV b o (λz=>?_) e) (λb o e=>RV b o (aaD (aak e)) (MV b o e)) V0⟩
 subst z
 simp only [V9,ab9,or_false] at hb
 rcases hb with z|z
 ·exact VY z
 ·exact Y3 z
def IC(K:Qqy)(ta:TA):TE:=λZ H Q=>ta Z H λvs H1=>∃a xs,vs=[.ref a]/\h_ K H1 a xs/\∀p,H1 p=none->Q (.ref p) (upd H1 p (.lst xs.reverse))
theorem EH{a:Expr}{ta:TA}{p1 p2 OZ Ck:Pos}(hc:X.calm=true)(MW:Gl X "list")(RW:X.mg "list"=none)(hg:Gl X "reversed")(hm:X.mg "reversed"=none)(ha:PA X [a] ta)(hs:starEach [a] X.env=[(false,eval a X.env)]:=by rfl)
  (RX:starEach [.Call (.Name "reversed" p2) [a] [] Ck] X.env=[(false,eval (.Call (.Name "reversed" p2) [a] [] Ck) X.env)]:=by rfl):PE X (.Call (.Name "list" p1) [.Call (.Name "reversed" p2) [a] [] Ck] [] OZ) (IC X.K ta):=by
 intro b_ s Z H Q I h
 refine Call_ (lT I MW RW boot_list (aaN ?_ RX rfl))
 rw[RX]
 refine abd ?_
 refine Call_ (lT I hg hm boot_reversed (aaN (iX (ha Ck b_ s Z H _ I h) λus s1 iG=>?_) hs rfl))
 obtain⟨vs,H1,I1,r1,q1⟩:=iG
 obtain⟨l,xs,rfl,hq,q⟩:=q1
 obtain⟨u,rfl,ru⟩:=vals1 r1
 cases (show u=Value.ref l from ru)
 obtain⟨ib,rv,pp,hz⟩:=I1.list hq
 have hl:=rv.length
 refine call_reversed_list pp.isList (abw ?_)
 have j9:l<s1.heap.objs.size:=let ⟨o,ho,_⟩:=pp.isList;aak ho
 have hL:(s1.heap.push (revObj l ((ib.toArray.size:Int)-1))).IsList l ib.toArray:=pp.isList.at λo e=>Ve _ e
 refine GS (s:={s1 with heap:=s1.heap.push (revObj l ((ib.toArray.size:Int)-1))}) (T:="list_reverseiterator") (d:=l) (n:=ib.toArray.size) (Walks.listRev (prog:=X.prog) (w:=X.w) (A:=X.A.in1.in1) (show X.A.in1.in1.handled=none from I.ok.hd hc) s1.heap.objs.size l (aaD j9) ib.toArray) (λh ⟨_,⟨o,ho,Bf,_⟩,_⟩=>⟨o,ho,Bf⟩) (by decide) (by decide)
  (λA E s Q ⟨_,⟨o,ho,Bf,_⟩,_⟩ hq=>IB ⟨o,ho,Bf⟩ hq) (λA E s Q ⟨_,x,_⟩ hq=>wpAny_pyIter_revIter x hq) (aaw j9 (by show s1.heap.objs.size<=(s1.heap.push _).objs.size;rw[aby];exact ab2 _))
  ⟨aaI _,by
   have e:(ib.toArray.size:Int)-1-((0:Nat):Int)=(ib.toArray.size:Int)-1:=by omega
   rw[e];exact⟨_,YK _ rfl,rfl,rfl⟩,hL⟩ (by rw[aaa,<-hl];exact hz) λh' tk acc c hk hS tf=>?_
 have hf:H1 (s1.heap.push (revObj l ((ib.toArray.size:Int)-1))).objs.size=none:=I1.iC.fresh (by rw[aby];omega)
 have rel:Vals xs.reverse acc.toList:=by
  have hsz:acc.toList.length=acc.size:=aaB
  refine o8 (by rw[abk,hsz,tf.1,aaa,hl]) λi x y hx hy=>?_
  have hi:i<xs.length:=by have:=(List.getElem?_eq_some_iff.mp hx).1;rwa [abk] at this
  have z:=tf.2 i y (by rw[<-aaL];exact hy)
  rw[List.getElem?_reverse hi] at hx
  obtain⟨w,hw,Eb⟩:=rv.get hx
  rw[aaa,<-hl] at z
  have z2:ib[xs.length-1-i]?=some y:=by simpa using z
  rw[hw] at z2
  cases z2
  exact Eb
 refine⟨.ref _,upd H1 _ (.lst xs.reverse),I1.laid (t':=tk) (h':=h') (λb o e=>hk b o (aaD (aak e)) (Ve _ e)) (by rw[aby];omega) ?_,rfl,q _ hf⟩
 exact⟨by rw[abk];exact hz,acc.toList,c,rel,by rw[abV];exact hS⟩
end
open PySem PySem.Builtin.Str
theorem subAt_one(s:Str)(c i:Nat):subAt s ⟨#[c]⟩ i=decide (s.cps[i]?=some c):=by
 unfold subAt
 show(s.cps.extract i (i+1) ==#[c])=_
 rw[abI]
 simp only [abN,abl]
 by_cases h:i<s.cps.size
 ·have e:s.cps.extract i (i+1)=#[s.cps[i]]:=by
   apply Array.ext
   ·simp;omega
   ·intro j h1 h2
    simp at h2
    subst h2
    simp
  rw[e,aaO h]
  constructor
  ·intro z;simpa using z
  ·intro z;simpa using z
 ·have e:s.cps.extract i (i+1)=#[]:=by
   apply Array.ext
   ·simp;omega
   ·intro j h1 h2;simp at h2
  rw[e,Array.getElem?_eq_none (by omega)]
  simp
noncomputable def ow(s sub:Str)(hi:Nat)(p:Array Nat×Nat)(i:Nat):Array Nat×Nat:=
 if(decide (p.1.size<1)&&decide (p.2<=i)&&decide (i+sub.length<=hi)&&subAt s sub i)=true then(p.1.push i,i+sub.length) else p
theorem ID(s sub:Str)(lo hi:Nat):occurrences s sub lo hi 1=((List.range' lo (hi+1-lo)).foldl (ow s sub hi) (#[],lo)).1.toList:=by
 unfold occurrences
 simp only [Std.Legacy.Range.forIn_eq_forIn_range',Std.Legacy.Range.size]
 rw[show(hi+1-lo+1-1)/1=hi+1-lo by omega]
 generalize List.range' lo (hi+1-lo)=l
 generalize ((#[],lo):Array Nat×Nat)=p
 show Id.run (forIn l p _ >>= _)=_
 have go:∀(l:List Nat)(p:Array Nat×Nat),(forIn l p (λ(i:Nat) (q:Array Nat×Nat)=>(if(decide (q.fst.size<1)&&decide (q.snd<=i)&&decide (i+sub.length<=hi)&&subAt s sub i)=true then
   pure (ForInStep.yield (q.fst.push i,i+sub.length)) else pure (ForInStep.yield (q.fst,q.snd)):Id (ForInStep (Array Nat×Nat)))):Id (Array Nat×Nat))=l.foldl (ow s sub hi) p:=by
  intro l
  induction l with
  | nil=>intro p;rfl
  | cons a r ih=>
   intro p
   rw[List.forIn_cons,acf]
   unfold ow
   split
   ·exact ih _
   ·exact ih _
 rw[go]
 rfl
theorem Ld(s:Str)(c:Nat):(occurrences s ⟨#[c]⟩ 0 s.length 1).isEmpty=decide (c∉s.cps.toList):=by
 rw[ID]
 have inv:∀(l:List Nat)(p:Array Nat×Nat),(p.1=#[]->p.2=0)->((l.foldl (ow s ⟨#[c]⟩ s.length) p).1=#[]↔p.1=#[]/\∀i∈l,¬(i+1<=s.length/\s.cps[i]?=some c)):=by
  intro l
  induction l with
  | nil=>intro p _;simp
  | cons a r ih=>
   intro p hp
   rw[acf]
   by_cases hc:(decide (p.1.size<1)&&decide (p.2<=a)&&decide (a+(⟨#[c]⟩:Str).length<=s.length)&&subAt s ⟨#[c]⟩ a)=true
   ·have e:ow s ⟨#[c]⟩ s.length p a=(p.1.push a,a+(⟨#[c]⟩:Str).length):=aag hc
    rw[e,ih _ (λz=>by simp at z)]
    simp only [aaW,abl,subAt_one] at hc
    constructor
    ·rintro⟨z,_⟩;simp at z
    ·rintro⟨z,h⟩
     exact absurd ⟨hc.1.2,hc.2⟩ (h a aae)
   ·have e:ow s ⟨#[c]⟩ s.length p a=p:=aac hc
    rw[e,ih _ hp]
    constructor
    ·rintro⟨z,h⟩
     refine⟨z,λi hi=>?_⟩
     rcases V9.mp hi with rfl|hi
     ·intro ⟨h1,h2⟩
      apply hc
      simp only [aaW,abl,subAt_one]
      exact⟨⟨⟨by rw[z];decide,by rw[hp z];exact aaI _⟩,h1⟩,h2⟩
     ·exact h i hi
    ·rintro⟨z,h⟩
     exact⟨z,λi hi=>h i (YE _ hi)⟩
 have h:=inv (List.range' 0 (s.length+1-0)) (#[],0) (λ_=>rfl)
 rw[abI,abl,List.isEmpty_iff]
 rw[show(List.foldl (ow s ⟨#[c]⟩ s.length) (#[],0) (List.range' 0 (s.length+1-0))).1.toList=[]↔(List.foldl (ow s ⟨#[c]⟩ s.length) (#[],0) (List.range' 0 (s.length+1-0))).1=#[] from ⟨λz=>by simpa using z,λz=>by rw[z]⟩,h]
 constructor
 ·rintro⟨_,h⟩ hm
  obtain⟨i,hi,e⟩:=List.mem_iff_getElem.mp hm
  have yq:i<s.cps.size:=by simpa using hi
  refine h i (by rw[List.mem_range'_1];show 0<=i/\i<0+(s.cps.size+1-0);omega) ⟨yq,?_⟩
  rw[aaO yq]
  simpa using e
 ·intro hn
  refine⟨rfl,λi _ ⟨_,h2⟩=>hn ?_⟩
  exact Xj (i:=i) (by rw[aaL];exact h2)
theorem yQ:entryFor table "set.__iter__"=some Builtin.«frozenset.__iter__»:=entryFor_alias (id':="frozenset.__iter__") (by kernel_rfl) rfl (by decide+kernel) (by kernel_rfl)
theorem Ab(a:Value):argsOk "set.__iter__" ⟨[a],[]⟩:=by unfold argsOk;kernel_rfl
theorem kO:Slot "set_iterator" "__next__" "set_iterator.__next__":=
 .of (owner:="set_iterator") (n:="__next__") (by rw[typeLookup_type,builtinLookup_eq_fast];kernel_rfl) (by decide+kernel) (by decide+kernel) (by decide+kernel)
  (by first|exact .inl (by decide+kernel)|exact .inr (by decide+kernel)) (by rw[isSubtype_type];kernel_rfl)
theorem tD:Slot "set_iterator" "__iter__" "set_iterator.__iter__":=
 .of (owner:="set_iterator") (n:="__iter__") (by rw[typeLookup_type,builtinLookup_eq_fast];kernel_rfl) (by decide+kernel) (by decide+kernel) (by decide+kernel)
  (by first|exact .inl (by decide+kernel)|exact .inr (by decide+kernel)) (by rw[isSubtype_type];kernel_rfl)
theorem yR:entryFor table "set_iterator.__next__"=some Builtin.«set_iterator.__next__»:=entryFor_of_tree (by kernel_rfl)
theorem Ac(a:Value):argsOk "set_iterator.__next__" ⟨[a],[]⟩:=by unfold argsOk;kernel_rfl
theorem yS:entryFor table "set_iterator.__iter__"=some Builtin.«dict_keyiterator.__iter__»:=entryFor_alias (id':="dict_keyiterator.__iter__") (by kernel_rfl) rfl (by decide+kernel) (by kernel_rfl)
theorem Ae(a:Value):argsOk "set_iterator.__iter__" ⟨[a],[]⟩:=by unfold argsOk;kernel_rfl
section
variable{prog:Program}{w:World}{A:Around}{E:Qqq}{s:Shared}
theorem IE{r:Addr}{Q:Bool->Shared->Prop}(hT:s.TypeIs (.ref r) "set")(h:Q false s):wpAny (model prog w) A (Builtin.List.listLengthHint (.ref r)) Q E s:=by
 unfold Builtin.List.listLengthHint
 refine Ph (abK hT PySem.F.slot_set_len.lookup ?_)
 generalize uM:("set.__len__":String)=VX
 wp_delta
 rw[show splitId VX=some ("set","__len__") from by subst uM;decide+kernel]
 subst uM
 refine Ph (wpAny_isInstance (T:="set") (b:=true) hT (by rw[isSubtype_type];kernel_rfl) ?_)
 refine abi (λCj=>absurd Cj (by decide)) (λ_=>?_)
 refine abi (λ_=>?_) (λCj=>absurd (by decide+kernel) Cj)
 refine Ph (wpAny_typeOf hT ?_)
 exact R8 h
end
section
variable{X:Cx}
end
def vX(h:Heap)(d:Addr)(es:Array DictEntry)(ep:Nat):Prop:=∃o,h.get? d=some o/\o.ExactDict/\o.data=.dict es ep
section
variable{P:Program}{w:World}{A:Around}{E:Qqq}{s:Shared}{d it:Addr}{es:Array DictEntry}{ep i:Nat}
theorem vX.ty(x:vX s.heap d es ep):s.TypeIs (.ref d) "dict":=by obtain⟨o,e,c,_⟩:=x;exact⟨o,e,c.1⟩
theorem vX.at{h h':Heap}(x:vX h d es ep)(k:∀o,h.get? d=some o->h'.get? d=some o):vX h' d es ep:=by obtain⟨o,e,r⟩:=x;exact⟨o,k o e,r⟩
theorem C9{Q:Qqq}(lo:(d ==sysModules)=false)(x:vX s.heap d es ep)
  (k:Q (.ref s.heap.objs.size) {s with heap:=s.heap.push {cls:=.type "dict_keyiterator",data:=.fields #[.ref d,.int 0 0,.int es.size 0,.int ep 0]}}):wpAny (model P w) A (pyIter (.ref d)) Q E s:=by
 have ty:=x.ty
 obtain⟨o,e,c,dt⟩:=x
 refine wpAny_pyIter_slot ty F.slot_dict_iter (aa8 F.slot_dict_iter ty F.entry_dict_iter ?z (F.args_dict_iter_1 _))
 case z=>
  unfold Builtin.«dict.__iter__» Builtin.Dict.dictSlotNone
  refine Ph (Ph (wpAny_notOrdered_dict ty (show wpAny _ _ (pure (Value.ref d)) _ _ s from R8 ?z)))
  case z=>
   show wpAny _ _ (Builtin.Dict.showsAll d >>= _) _ _ s
   unfold Builtin.Dict.showsAll
   rw[lo,aac (λz=>by cases z)]
   refine Ph (R8 (Ph (aba e dt (Ph (wpAny_dictEpoch e dt (Ph (aa_ (R8 ?z))))))))
   case z=>exact⟨_,rfl,"dict_keyiterator",_,⟨_,YK _ rfl,rfl⟩,abm.lookup,by simpa[rawInt] using k⟩
theorem C_{Q:Option Value->Shared->Prop}{y:DictEntry}(x:s.heap.IsKeyIter it d i es.size ep)(r:vX s.heap d es ep)(hy:es[i]?=some y)
  (k:∀h',h'.IsKeyIter it d (i+1) es.size ep->Heap.SameBut it s.heap h'->Q (some y.key) {s with heap:=h'}):wpAny (model P w) A (pyNext (.ref it)) Q E s:=by
 have ty:=x.typeIs
 obtain⟨o,e,c,dt⟩:=id x
 obtain⟨o2,e2,c2,RY⟩:=r
 have O0:Builtin.Dict_items.ownsTuple "dict_keyiterator"=false:=by decide
 unfold pyNext
 refine Ph (wpAny_attempt (wpAny_callSpecial?_slot (name:=Str.ofString "__next__") ty abm (aa8 abm ty F.entry_dict_keyiterator_next ?z (F.args_dict_keyiterator_next_1 _))))
 case z=>
  refine Ph (R8 (Ph (Ph ?z)))
  case z=>
   first|refine Ph (abB ty (R8 (Ph (ab_ e dt ?z))))|refine Ph (wpAny_typeNameOf_keyiter ty (R8 (Ph (ab_ e dt ?z))))
   case z=>
    simp only [O0,aaV,ab3]
    show wpAny _ _ (if(Value.ref d ==Value.none)=true then _ else _) _ _ s
    rw[aac (λz=>by cases z)]
    refine Ph (R8 (Ph (aba e2 RY ?z)))
    case z=>
     rw[aac (by simp)]
     refine Ph (R8 (Ph (wpAny_dictEpoch e2 RY ?z)))
     case z=>
      rw[aac (by simp)]
      refine R8 ?z
      case z=>
       simp only [show ¬((i:Int)<0) by omega,ab3,abX,hy]
       refine Ph ?z
       case z=>
        first|refine Ph (abB ty (R8 (Ph (wpAny_isOneOf_keyiter ty ?z))))|refine Ph (wpAny_typeNameOf_keyiter ty (R8 (Ph (wpAny_isOneOf_keyiter ty ?z))))
        case z=>
         show wpAny _ _ (setField (.ref it) 1 (rawInt ((i:Int)+1)) >>= _) _ _ s
         have n:(s.heap.update it (Obj.mapFields (·.setIfInBounds 1 (rawInt ((i:Int)+1))))).IsKeyIter it d (i+1) es.size ep:=
          ⟨_,aaS _ e (Obj.isFreed_of_fields (Obj.data_mapFields dt _)),(Obj.cls_mapFields ..).trans c,by rw[Obj.data_mapFields dt];simp[rawInt]⟩
         refine Ph (wpAny_setField e dt (by simp) (Ph (aa9 (Ph (wpAny_isOneOf_keyiter (s:={s with heap:=s.heap.update it (Obj.mapFields (·.setIfInBounds 1 (rawInt ((i:Int)+1))))}) n.typeIs ?z)))))
         case z=>
          show wpAny _ _ (pure y.key) _ _ _
          exact R8 (R8 ⟨_,rfl,R8 (k _ n (aaZ ..))⟩)
theorem Dc{Q:Option Value->Shared->Prop}(hh:A.handled=none)(x:s.heap.IsKeyIter it d i es.size ep)(r:vX s.heap d es ep)(hy:es.size<=i)
  (k:∀h',Heap.ExtBut it s.heap h'->Q none {s with heap:=h'}):wpAny (model P w) A (pyNext (.ref it)) Q E s:=by
 have ty:=x.typeIs
 obtain⟨o,e,c,dt⟩:=id x
 obtain⟨o2,e2,c2,RY⟩:=r
 have O0:Builtin.Dict_items.ownsTuple "dict_keyiterator"=false:=by decide
 unfold pyNext
 refine Ph (wpAny_attempt (wpAny_callSpecial?_slot (name:=Str.ofString "__next__") ty abm (aa8 abm ty F.entry_dict_keyiterator_next ?z (F.args_dict_keyiterator_next_1 _))))
 case z=>
  refine Ph (R8 (Ph (Ph ?z)))
  case z=>
   first|refine Ph (abB ty (R8 (Ph (ab_ e dt ?z))))|refine Ph (wpAny_typeNameOf_keyiter ty (R8 (Ph (ab_ e dt ?z))))
   case z=>
    simp only [O0,aaV,ab3]
    show wpAny _ _ (if(Value.ref d ==Value.none)=true then _ else _) _ _ s
    rw[aac (λz=>by cases z)]
    refine Ph (R8 (Ph (aba e2 RY ?z)))
    case z=>
     rw[aac (by simp)]
     refine Ph (R8 (Ph (wpAny_dictEpoch e2 RY ?z)))
     case z=>
      rw[aac (by simp)]
      refine R8 ?z
      case z=>
       simp only [show ¬((i:Int)<0) by omega,ab3,abX,Array.getElem?_eq_none hy]
       refine Ph ?z
       case z=>
        first|refine Ph (abB ty (R8 ?z))|refine Ph (wpAny_typeNameOf_keyiter ty (R8 ?z))
        case z=>
         show wpAny _ _ (setField (.ref it) 0 .none >>= _) _ _ s
         refine Ph (wpAny_setField e dt (by simp) ?z)
         case z=>
          show wpAny _ _ (newExc (.type "StopIteration") [] >>= _) _ _ _
          refine Ph ?z
          case z=>
           simp only [newExc,newTuple]
           refine Ph (aa_ (Ph (m:=firstArgMember _ _) (abL (a:=Value.none) (by first|rfl|(simp only [firstArgMember];rfl)) (aa_ ?z (by size_fits)))) (by size_fits))
           case z=>
            simp only [raiseNew]
            refine Ph (wpAny_handled ?z)
            case z=>
             rw[show A.in1.handled=none from hh]
             refine Ph (R8 (wpAny_throw ?z))
             case z=>exact Ph (wpAny_isInstance (T:="StopIteration") (b:=true) ⟨_,YK _ rfl,rfl⟩ isSubtype_stop <| R8 (k _ (((aaZ ..).extBut.push _).push _)))
end
section
variable{X:Cx}{b_:Qqz}{Z:St}{H:Hp}{s:Shared}{tg:Expr}
noncomputable def GU(d:Addr)(o:Obj)(kvs:List (List Key×V)):It:=
 ⟨λi H=>H d=some (.oh o (.dT kvs))/\i<kvs.length,λi H x H'=>H'=H/\∃k v b,kvs[i]?=some (k,v)/\x=.ref b/\H b=some (.tup (k.map kV)),λi H=>H d=some (.oh o (.dT kvs))/\kvs.length<=i⟩
theorem kt_at{kvs:List (List Key×V)}{xs:List (List Key×Addr×Value)}(r:KT H kvs xs):∀{i:Nat} {k:List Key} {b:Addr} {u:Value},xs[i]?=some (k,b,u)->∃v,kvs[i]?=some (k,v)/\H b=some (.tup (k.map kV))/\RelV v u:=by
 induction r with
 | nil=>intro i k b u e;simp at e
 | @cons p q ps qs f t ih=>
  intro i k b u e
  cases i with
  | zero=>
   simp at e
   subst e
   exact⟨p.2,aaQ some (Prod.ext f.1 rfl),by rw[<-show p.1=k from f.1];exact f.2.1,f.2.2⟩
  | succ i=>
   obtain⟨v,h1,h2⟩:=ih (by simpa using e)
   exact⟨v,by simpa using h1,h2⟩
theorem yT{P:Program}{w:World}{h:Heap}{d:Addr}{kvs:List (List Key×V)}(q:iR P w H h d (.dT kvs)):(d ==sysModules)=false/\kvs.length<=sizeLine/\∃(es:Array DictEntry)(ep:Nat),vX h d es ep/\es.size=kvs.length/\
  (∀(i:Nat)(y:DictEntry),es[i]?=some y->∃k v b,kvs[i]?=some (k,v)/\y.key=.ref b/\H b=some (.tup (k.map kV))/\RelV v y.val):=by
 obtain⟨hz,hs,xs,r,o,es,ep,ho,hc,hd,he,hn⟩:=q
 have sz:=ach he
 refine⟨hs,hz,es,ep,⟨o,ho,hc,hd⟩,by rw[sz];exact(aaj r).symm,λi y hy=>?_⟩
 rw[entry_at he i] at hy
 obtain⟨⟨k,b,u⟩,hx,e⟩:=Option.map_eq_some_iff.mp hy
 obtain⟨v,h1,h2,h3⟩:=kt_at r hx
 subst e
 exact⟨k,v,b,h1,rfl,h2,h3⟩
theorem EI{P:Program}{w:World}{K:Qqy}(d it:Addr)(o:Obj)(es:Array DictEntry)(ep:Nat)(kvs:List (List Key×V))(JY:o.data=.dict es ep)(hsz:es.size=kvs.length):Turn P w K tg (GU d o kvs) [it] it (λi h=>h.IsKeyIter it d i es.size ep) where
 mem:=by simp
 obj:=λi h st b hb=>by
  have e:b=it:=by simpa using hb
  subst e
  obtain⟨o,e,c,d⟩:=st
  exact⟨o,e,λv z=>by rw[d] at z;cases z⟩
 keep:=λi h h' st k=>st.at λo e=>k it (by simp) o e
 item:=by
  intro X hP hw hK hc i b_ s Z H E I hf st hg
  subst hP hw hK
  obtain⟨hd,hi⟩:=hg
  obtain⟨ho,q⟩:=(show iR X.prog X.w H s.heap d (.oh o (.dT kvs)) from I.iC d _ hd)
  obtain⟨_,_,es',MN,raw,sz,TV⟩:=yT q
  obtain⟨o',qr,h2,h3⟩:=id raw
  rw[ho] at qr;cases qr
  rw[JY] at h3;cases h3
  have yq:i<es.size:=by omega
  obtain⟨k,v,b,e1,e2,e3,_⟩:=TV i es[i] (aaO yq)
  obtain⟨f0,f1,f2,f3,f4,f5⟩:=hf it (by simp)
  refine C_ st raw (aaO yq) λh' wO sb=>?_
  have I1:Inv X b_ Z H {s with heap:=h'}:=I.turned (t':=s.toks) (λb o hb e=>(sb.2 b hb).trans e) f0 f1 f3 f4 f5
  obtain⟨o',e,c,dd⟩:=id wO
  exact⟨_,rfl,yw (s:={s with heap:=h'}) e c dd (by decide) ⟨.ref b,H,I1,e2,⟨rfl,k,v,b,e1,rfl,e3⟩,wO,λb hb=>(hf b hb).1⟩⟩
 done:=by
  intro X hP hw hK hc i b_ s Z H E I hf st hg
  subst hP hw hK
  obtain⟨hd,hi⟩:=hg
  obtain⟨ho,q⟩:=(show iR X.prog X.w H s.heap d (.oh o (.dT kvs)) from I.iC d _ hd)
  obtain⟨_,_,es',MN,raw,sz,TV⟩:=yT q
  obtain⟨o',qr,h2,h3⟩:=id raw
  rw[ho] at qr;cases qr
  rw[JY] at h3;cases h3
  obtain⟨f0,f1,f2,f3,f4,f5⟩:=hf it (by simp)
  exact Dc (I.ok.hd hc) st raw (by omega) λh' eb=>⟨rfl,I.turned (t':=s.toks) (λb o hb e=>eb b o hb e) f0 f1 f3 f4 f5⟩
 self:=λ_ _ _ _ _ st h=>wpAny_pyIter_keyiter st h
def NZ(X:Cx)(td:TE):TI:=λZ H R=>td Z H λx H1=>∃d kvs,x=.ref d/\H1 d=some (.dT kvs)/\∀o,Aa X d->R (GU d o kvs) (upd H1 d (.oh o (.dT kvs)))
theorem yU{l:Expr}{td:TE}(hl:PE X l td):PI X tg l (NZ X td):=by
 intro b_ s Z H R I h
 refine iX (hl b_ s Z H _ I h) λv s1 iG=>?_
 obtain⟨x,H1,I1,r1,q1⟩:=iG
 obtain⟨d,kvs,e,hd,q⟩:=q1
 subst e
 cases r1
 have nf:=I1.NV hd True.intro
 obtain⟨o,ho,I2⟩:=I1.frozen hd True.intro
 obtain⟨hs,_,es,ep,raw,sz,_⟩:=yT (I1.iC d _ hd)
 obtain⟨o',qr,h2,h3⟩:=id raw
 rw[ho] at qr;cases qr
 refine C9 hs raw ?_
 refine⟨s1.heap.objs.size,[s1.heap.objs.size],_,_,_,rfl,I2.kept (t':=s1.toks) λb o e=>Ve _ e,EI d _ o es ep kvs h3 sz,⟨_,YK _ rfl,rfl,rfl⟩,λb hb=>?_,q o nf⟩
 have e:b=s1.heap.objs.size:=by simpa using hb
 subst e
 exact I2.xS (Vb _) (I2.iC.fresh (Vb _))
theorem AX{d:Addr}{o:Obj}{kvs:List (List Key×V)}{g:TG}{tb:TS}{D:Ends}{Z:St}{H:Hp}(Pv:Nat->St->Hp->Prop)(h0:Pv 0 Z H)(hl:∀i Z H,Pv i Z H->H d=some (.oh o (.dT kvs)))
  (hs:∀i k v b Z H,kvs[i]?=some (k,v)->H b=some (.tup (k.map kV))->Pv i Z H->g (.ref b) Z H λZ2 H2=>tb {D with nx:=Pv (i+1),ct:=Pv (i+1),bk:=D.nx} Z2 H2) (hd:∀Z H,Pv kvs.length Z H->D.nx Z H) :
  ∃W:Nat->Nat->St->Hp->Prop,(∃m,W 0 m Z H)/\∀i m Z H,W i m Z H->
   ((GU d o kvs).stop i H/\D.nx Z H)\/((GU d o kvs).go i H/\∃N:St->Hp->Prop,(∀Z' H',N Z' H'->∃m',m'<m/\W (i+1) m' Z' H')/\∀x H',(GU d o kvs).Kr i H x H'->g x Z H' λZ2 H2=>tb {D with nx:=N,ct:=N,bk:=D.nx} Z2 H2):=by
 refine⟨λi m Z H=>m=kvs.length-i/\i<=kvs.length/\Pv i Z H,⟨kvs.length,by simp,aaI _,h0⟩,?_⟩
 rintro i m Z H ⟨rfl,hi,p⟩
 have q:=hl i Z H p
 by_cases j9:i<kvs.length
 ·refine .inr ⟨⟨q,j9⟩,Pv (i+1),λZ' H' p'=>⟨kvs.length-(i+1),by omega,rfl,j9,p'⟩,λx H' y=>?_⟩
  obtain⟨e,k,v,b,y,rfl,hb⟩:=y
  subst e
  exact hs i k v b Z _ y hb p
 ·have e:i=kvs.length:=by omega
  subst e
  exact .inl ⟨⟨q,Vb _⟩,hd Z H p⟩
theorem IF{d:Addr}{o:Obj}{kvs:List (List Key×V)}{g:TG}{tt:TT}{te:TE}{Q:List V->Hp->Prop}{Z:St}{H:Hp}(hn:kvs.length<=sizeLine)(Pv:Nat->List V->St->Hp->Prop)(h0:Pv 0 [] Z H)(hl:∀i ys Z H,Pv i ys Z H->H d=some (.oh o (.dT kvs))/\ys.length<=i)
  (hs:∀i k v b ys Z H,kvs[i]?=some (k,v)->H b=some (.tup (k.map kV))->Pv i ys Z H->g (.ref b) Z H λZ2 H2=>tt Z2 H2 λc H3=>if c=true then te Z2 H3 λv H4=>Pv (i+1) (ys++[v]) Z2 H4 else Pv (i+1) ys Z2 H3)
  (hd:∀ys Z H,Pv kvs.length ys Z H->Q ys H):GO g tt te (GU d o kvs) Q Z H:=by
 refine⟨λi m ys Z H=>m=kvs.length-i/\i<=kvs.length/\Pv i ys Z H,⟨kvs.length,by simp,aaI _,h0⟩,?_⟩
 rintro i m ys Z H ⟨rfl,hi,p⟩
 obtain⟨q,hy⟩:=hl i ys Z H p
 by_cases j9:i<kvs.length
 ·refine .inr ⟨⟨q,j9⟩,by omega,Pv (i+1),λPZ Z' H' p'=>⟨kvs.length-(i+1),by omega,rfl,j9,p'⟩,λx H' y=>?_⟩
  obtain⟨e,k,v,b,y,rfl,hb⟩:=y
  subst e
  exact hs i k v b ys Z _ y hb p
 ·have e:i=kvs.length:=by omega
  subst e
  exact .inl ⟨⟨q,Vb _⟩,by omega,hd ys Z H p⟩
end
section
variable{P:Program}{w:World}{d it:Addr}{es:Array DictEntry}{ep:Nat}
theorem GV{A:Around}(hh:A.handled=none)(qt:d≠it):Walks P w A it [it,d] [it] es.size (λi v=>∃y,es[i]?=some y/\v=y.key) (λi h=>h.IsKeyIter it d i es.size ep/\vX h d es ep) where
 sub:=λb hb=>by rw[Sd.mp hb];exact aae
 frame:=λi h h' ⟨a,b⟩ hk=>⟨a.at λo e=>hk it aae o e,b.at λo e=>hk d (by simp) o e⟩
 item:=λi s Q E hi ⟨a,b⟩ hQ=>C_ a b (aaO hi) λh' a' sb=>hQ _ h' s.toks ⟨_,aaO hi,rfl⟩ ⟨a',b.at λo e=>sb.extBut d o qt e⟩ λb o hb e=>sb.extBut b o (λz=>hb (by rw[z];exact Sd.mpr rfl)) e
 done:=λs Q E ⟨a,b⟩ hQ=>Dc hh a b (Vb _) λh' eb=>hQ h' s.toks λb o hb e=>eb b o (λz=>hb (by rw[z];exact Sd.mpr rfl)) e
 self:=λi s Q E ⟨a,_⟩ hQ=>wpAny_pyIter_keyiter a hQ
theorem Le(lo:(d ==sysModules)=false):W.KdlSrc P w "dict" d d es.size (λi v=>∃y,es[i]?=some y/\v=y.key) (λh=>vX h d es ep) where
 type:=λs r=>r.ty
 there:=λh ⟨o,e,_⟩=>⟨aak e,aak e⟩
 keep:=λh h' r hk=>r.at λo e=>hk d (.inl rfl) o e
 notList:=by decide
 notTuple:=by decide
 hint:=λA E s Q r hq=>W.kdl_hint_dict r.ty hq
 iter:=λA s hh r=>⟨_,_,(λE Q hq=>C9 lo r hq),GV hh (by obtain⟨o,e,_⟩:=r;exact aaD (aak e)),⟨⟨_,YK _ rfl,rfl,rfl⟩,r.at λo e=>Ve _ e⟩⟩
end
section
variable{X:Cx}{b_:Qqz}{Z:St}{H:Hp}{s:Shared}
theorem xV(hc:X.calm=true):qE X (.type "list") (λxs H Q=>∃d kvs,xs=[V.ref d]/\H d=some (.dT kvs)/\∀p bs,H p=none->Paired (λ(kv:List Key×V) (b:Addr)=>H b=some (.tup (kv.1.map kV))) kvs bs->Q (.ref p) (upd H p (.lst (bs.map V.ref)))):=by
 intro b_ s Z H xs us Q I r h
 obtain⟨d,kvs,rfl,hd,q⟩:=h
 obtain⟨u,rfl,ru⟩:=vals1 r
 cases (show u=Value.ref d from ru)
 obtain⟨hs,hz,es,ep,raw,sz,TV⟩:=yT (I.iC d _ hd)
 refine W.kdl_call (Le hs) (I.ok.hd hc) raw (by omega) λh' tk acc c hk hS tf=>?_
 have hf:H s.heap.objs.size=none:=I.iC.fresh (Vb _)
 have hb:∀i:Nat,i<kvs.length->∃k v b,kvs[i]?=some (k,v)/\(es[i]?.map DictEntry.key)=some (Value.ref b)/\H b=some (.tup (k.map kV)):=λi hi=>by
  have yq:i<es.size:=by omega
  obtain⟨k,v,b,e1,e2,e3,_⟩:=TV i es[i] (aaO yq)
  exact⟨k,v,b,e1,by rw[aaO yq,abJ,e2],e3⟩
 let adr:Value->Addr:=λv=>match v with|.ref b=>b|_=>0
 let bs:List Addr:=es.toList.map λy=>adr y.key
 have MX:bs.length=kvs.length:=by show(es.toList.map _).length=_;rw[QU,aaB];exact sz
 have Y4:∀(i:Nat)(b:Addr),bs[i]?=some b->∃k v,kvs[i]?=some (k,v)/\es[i]?.map DictEntry.key=some (Value.ref b)/\H b=some (.tup (k.map kV)):=λi b e=>by
  have hi:i<kvs.length:=by rw[<-MX];exact(List.getElem?_eq_some_iff.mp e).1
  obtain⟨k,v,b',e1,e2,e3⟩:=hb i hi
  have:bs[i]?=some b':=by
   show(es.toList.map _)[i]?=_
   rw[YI,aaL]
   obtain⟨y,ey,e4⟩:=Option.map_eq_some_iff.mp e2
   rw[ey]
   show some (adr y.key)=_
   rw[e4]
  rw[this] at e
  cases e
  exact⟨k,v,e1,e2,e3⟩
 have rel:Vals (bs.map V.ref) acc.toList:=by
  refine o8 (by have e1:=tf.1;have e2:acc.toList.length=acc.size:=aaB;rw[QU,MX];omega) λi a b ha hb=>?_
  rw[YI] at ha
  obtain⟨b',e,rfl⟩:=Option.map_eq_some_iff.mp ha
  obtain⟨k,v,_,e2,_⟩:=Y4 i b' e
  obtain⟨y,hy,hv⟩:=tf.2 i b (by rw[<-aaL];exact hb)
  rw[hy,abJ] at e2
  show b=.ref b'
  rw[hv,aal e2]
 refine⟨.ref s.heap.objs.size,upd H s.heap.objs.size (.lst (bs.map V.ref)),I.laid (t':=tk) hk (Vb _) ?_,rfl,q _ bs hf (o8 MX.symm λi a b ha hb=>?_)⟩
 ·exact⟨by rw[QU,MX];exact hz,acc.toList,c,rel,by rw[abV];exact hS⟩
 ·obtain⟨k,v,e1,_,e3⟩:=Y4 i b hb
  rw[e1] at ha
  cases ha
  exact e3
end
section
variable{P:Program}{w:World}{Z:Type}[DecidableEq Z]{knd:HeapKind P w Z}{A:Around}{E:Qqq}{s:Shared}{d a:Addr}{xs:List (Z×Addr×Value)}{k:Z}
theorem IG{v:Value}{Q:Unit->Shared->Prop}(hu:knd.room A)(hk:knd.is s.heap k a)(m:s.heap.DictOfH knd d xs)(hz:xs.length<=sizeLine)
  (q:∀h',h'.DictOfH knd d (storedH xs k a v)->Heap.SameBut d s.heap h'->Q () {s with heap:=h'}):wpAny (model P w) A (dictSetHashed d (.ref a) (knd.hash k) v) Q E s:=by
 obtain⟨o,es,ep,ho,hc,hd,he,P0,hn⟩:=m
 have sz:=ach he
 unfold dictSetHashed
 try with_reducible refine aa9 ?_
 refine Ph (wpAny_dictFind_heap hu hk ho hd he P0 hn (λno=>?_) λj p hj=>?_)
 ·have at0:=atKey_none_of_get no
  refine Ph (wpAny_rule (wpAny_updateDictKeys (hz:=by omega) ho hd (q _ ?_ (aaZ ..))))
  rw[storedH_new at0]
  refine⟨_,_,ep+1,aaS _ ho (Obj.isFreed_of_dict (Obj.data_mapDictKeys hd _)),hc.mapDictKeys _,Obj.data_mapDictKeys hd _,by simp[he,entryOfKey],λx hx=>?_,?_⟩
  ·refine knd.keeps ?_ ho hd (aaZ ..)
   rcases YD.mp hx with hx|hx
   ·exact P0 x hx
   ·rw[Sd.mp hx];exact hk
  ·rw[aar,aa5]
   exact⟨hn,by simp,λx hx y hy z=>not_mem_keys_of_get no (by rw[Sd.mp hy] at z;have z:x=k:=z;exact z▸hx)⟩
 ·have at1:=atKey_of_get hn hj
  refine Ph (wpAny_rule (Ph (wpAny_updateDict ho hd (wpAny_point (q _ ?_ (aaZ ..))))))
  rw[storedH_old at1]
  refine⟨_,_,ep,aaS _ ho (Obj.isFreed_of_dict (Obj.data_mapDict hd _)),hc.mapDict _,Obj.data_mapDict hd _,?_,λx hx=>?_,by rw[keys_map_putAt];exact hn⟩
  ·have z:=modify_map_putAt (entryOfKey knd) (λe:DictEntry=>{e with val:=v}) k v (λ_ _=>rfl) hn hj
   rw[<-he] at z
   obtain⟨l⟩:=es
   simpa using z
  ·obtain⟨y,hy,rfl⟩:=List.mem_map.mp hx
   unfold putAt
   split<;>exact knd.keeps (P0 y hy) ho hd (aaZ ..)
def Dd(xs:List (Z×Addr×Value))(k:Z):List (Z×Addr×Value):=xs.filter λx=>decide (x.1≠k)
theorem EJ{Y:Type}(f:Z×Addr×Value->Y):∀{xs:List (Z×Addr×Value)} {j:Nat} {p:Addr×Value},(xs.map (·.1)).Nodup->xs[j]?=some (k,p)->(xs.map f).eraseIdx j=(Dd xs k).map f:=by
 intro xs
 induction xs with
 | nil=>intro j p _ hj;simp at hj
 | cons x r ih=>
  intro j p hn hj
  rw[aat,aaY] at hn
  unfold Dd
  cases j with
  | zero=>
   simp at hj
   have e:r.filter (λx=>decide (x.1≠k))=r:=List.filter_eq_self.mpr λy hy=>V7 λz=>hn.1 (by rw[hj];show k∈_;rw[<-z];exact Vi hy)
   rw[aaf (by rw[hj];simp),e]
   rfl
  | succ j=>
   have hj:r[j]?=some (k,p):=by simpa using hj
   have ne:x.1≠k:=λz=>hn.1 (by rw[z];exact List.mem_map.mpr ⟨_,Xj hj,rfl⟩)
   rw[aad (by simpa using ne),aat,aat,List.eraseIdx_cons_succ,ih hn.2 hj]
   rfl
theorem IH{p:Addr×Value}{Q:Option DictEntry->Shared->Prop}(hu:knd.room A)(hk:knd.is s.heap k a)(m:s.heap.DictOfH knd d xs)(hz:xs.length<=sizeLine)(hp:atKey xs k=some p)
  (q:∀h',h'.DictOfH knd d (Dd xs k)->Heap.SameBut d s.heap h'->Q (some ⟨knd.hash k,.ref p.1,p.2⟩) {s with heap:=h',toks:=s.toks+knd.draws k}):wpAny (model P w) A (Builtin.Dict.takeOut d (.ref a)) Q E s:=by
 obtain⟨o,es,ep,ho,hc,hd,he,P0,hn⟩:=m
 have sz:=ach he
 unfold Builtin.Dict.takeOut
 try with_reducible refine aa9 ?_
 refine Ph (knd.pyHash hu hk (Ph (wpAny_dictFind_heap (s:={s with toks:=s.toks+knd.draws k}) hu hk ho hd he P0 hn (λno=>?_) λj p' hj=>?_)))
 ·rw[atKey_none_of_get no] at hp;cases hp
 ·have e:=atKey_of_get hn hj
  rw[hp] at e
  cases e
  refine Ph (aba (s:={s with toks:=s.toks+knd.draws k}) ho hd ?_)
  rw[entry_at he j,hj]
  refine Ph (wpAny_updateDictKeys (hz:=by omega) (s:={s with toks:=s.toks+knd.draws k}) ho hd (R8 (q _ ?_ (aaZ ..))))
  refine⟨_,_,ep+1,aaS _ ho (Obj.isFreed_of_dict (Obj.data_mapDictKeys hd _)),hc.mapDictKeys _,Obj.data_mapDictKeys hd _,?_,λx hx=>knd.keeps (P0 x (aah.mp hx).1) ho hd (aaZ ..),(aa0.map _).nodup hn⟩
  have z:=EJ (k:=k) (entryOfKey knd) hn hj
  rw[<-he] at z
  rw[<-z]
  obtain⟨l⟩:=es
  simp
def kA(xs more:List (Z×Addr×Value)):List (Z×Addr×Value):=more.foldl (λacc x=>storedH acc x.1 x.2.1 x.2.2) xs
theorem De{xs more:List (Z×Addr×Value)}{i:Nat}{x:Z×Addr×Value}(h:more[i]?=some x):kA xs (more.take (i+1))=storedH (kA xs (more.take i)) x.1 x.2.1 x.2.2:=by
 unfold kA
 rw[List.take_add_one,h,List.foldl_append]
 rfl
theorem Df(xs:List (Z×Addr×Value))(k:Z)(a:Addr)(v:Value):(storedH xs k a v).length<=xs.length+1:=by
 unfold storedH
 split
 ·rw[QU];omega
 ·rw[Vh];exact Vb _
theorem EK(xs:List (Z×Addr×Value)):∀more:List (Z×Addr×Value),(kA xs more).length<=xs.length+more.length:=by
 intro more
 unfold kA
 induction more generalizing xs with
 | nil=>exact Vb _
 | cons x r ih=>
  have h1:=ih (storedH xs x.1 x.2.1 x.2.2)
  have h2:=Df xs x.1 x.2.1 x.2.2
  rw[acf,W7]
  omega
theorem EL{nm:String}{o:Addr}{more:List (Z×Addr×Value)}{Q:Unit->Shared->Prop}(hu:knd.room A)(ne:d≠o)(lo:(o ==sysModules)=false)(qt:xs≠[])(md:s.heap.DictOfH knd d xs)(mo:s.heap.DictOfH knd o more)(hz:xs.length+more.length<=sizeLine)
  (q:∀h',h'.DictOfH knd d (kA xs more)->Heap.SameBut d s.heap h'->Q () {s with heap:=h'}):wpAny (model P w) A (Builtin.Dict.mergeDict nm d o) Q E s:=by
 obtain⟨od,TX,epd,TY,Bg,TZ,RZ,uM,O1⟩:=id md
 obtain⟨oo,J0,epo,T1,hco,JY,JS,hio,P1⟩:=id mo
 have szo:=ach JS
 have Y5:=ach RZ
 unfold Builtin.Dict.mergeDict Builtin.Dict.showsAll
 rw[aac (by simpa using ne),lo,aac (λz=>by cases z)]
 refine Ph (R8 (Ph (aba T1 JY ?_)))
 dsimp only
 have loop:wpAny (model P w) A (do
   let R1 <-dictEpoch o
   let l <-dictEntries o
   forIn [:l.size] PUnit.unit λi (_:PUnit)=>(do
     let l' <-dictEntries o
     match l'[i]? with
      | some e=>do
       holding [e.key,e.val] (dictSetHashed d e.key e.hash e.val)
       let MN <-dictEpoch o
       if(MN != R1)=true then do (unsupported (toString nm++toString ":source-changed-during-callback"):Sem PUnit);pure (ForInStep.yield PUnit.unit)
        else pure (ForInStep.yield PUnit.unit)
      | _=>do (unsupported "internal:dict-merge":Sem PUnit);pure (ForInStep.yield PUnit.unit):Sem (ForInStep PUnit))
   pure ()) Q E s:=by
  refine Ph (wpAny_dictEpoch T1 JY (Ph (aba T1 JY (Ph ?_))))
  rw[Std.Legacy.Range.forIn_eq_forIn_range']
  simp only [Std.Legacy.Range.size,Nat.sub_zero,Nat.add_sub_cancel,Nat.div_one]
  refine wpAny_forIn_list _ (λrest _ s'=>∃h' i,s'={s with heap:=h'}/\rest=List.range' i (J0.size-i)/\i<=J0.size/\h'.DictOfH knd d (kA xs (more.take i))/\Heap.SameBut d s.heap h') _ ?_ ?_ _ _ ⟨s.heap,0,rfl,by simp,aaI _,by simpa[kA] using md,Heap.SameBut.refl _ _⟩
  ·rintro x rest b s' ⟨h',i,rfl,hr,hi,hm,hs⟩
   have j9:i<J0.size:=by
    rcases Nat.lt_or_ge i J0.size with z|z
    ·exact z
    ·rw[Nat.sub_eq_zero_of_le z] at hr;simp at hr
   obtain⟨ex,er⟩:x=i/\rest=List.range' (i+1) (J0.size-(i+1)):=by
    rw[show J0.size-i=(J0.size-(i+1))+1 by omega,acp] at hr
    exact List.cons.inj hr
   subst ex
   have R4:h'.get? o=some oo:=(hs.2 o (abE ne)).trans T1
   refine Ph (aba R4 JY ?_)
   obtain⟨⟨k,b2,v⟩,hx⟩:∃y,more[x]?=some y:=⟨more[x]'(by omega),R7 _⟩
   rw[entry_at JS x,hx]
   show wpAny _ _ (holding [Value.ref b2,v] (dictSetHashed d (.ref b2) (knd.hash k) v) >>= _) _ _ _
   have hl:(kA xs (more.take x)).length<=sizeLine:=by
    have:=EK xs (more.take x)
    rw[aaA] at this
    omega
   have hib:knd.is h' k b2:=knd.keeps (hio _ (Xj hx)) TY TZ hs
   refine Ph (aa9 (IG (s:={s with heap:=h'}) hu hib hm hl λh2 m2 s2=>?_))
   refine Ph (wpAny_dictEpoch ((s2.2 o (abE ne)).trans R4) JY ?_)
   rw[aac (by simp)]
   exact R8 ⟨h2,x+1,rfl,er,j9,by rw[De hx];exact m2,hs.trans s2⟩
  ·rintro b s' ⟨h',i,rfl,hr,hi,hm,hs⟩
   have e:i=J0.size:=by
    rcases Nat.lt_or_ge i J0.size with z|z
    ·rw[show J0.size-i=(J0.size-(i+1))+1 by omega,acp] at hr;cases hr
    ·omega
   refine R8 (q h' ?_ hs)
   rw[e,szo,aav] at hm
   exact hm
 split
 ·refine Ph (aba TY TZ ?_)
  rw[aac (λz=>?_)]
  ·exact loop
  ·have:TX=#[]:=Array.isEmpty_iff.mp z
   rw[this] at Y5
   exact qt (aas.mp Y5.symm)
 ·exact loop
theorem II{o:Addr}{more:List (Z×Addr×Value)}{Q:Qqq}(hu:knd.room A.in1)(ne:d≠o)(lo:(o ==sysModules)=false)(qt:xs≠[])(md:s.heap.DictOfH knd d xs)(mo:s.heap.DictOfH knd o more)(hz:xs.length+more.length<=sizeLine)
  (q:∀h',h'.DictOfH knd d (kA xs more)->Heap.SameBut d s.heap h'->Q .none {s with heap:=h'}):wpAny (model P w) A (call (.builtin "dict.update") [.ref d,.ref o]) Q E s:=by
 refine aa8 abZ md.typeIs PySem.F.entry_dict_update ?_ (PySem.F.args_dict_update_2 _ _)
 unfold Builtin.«dict.update» Builtin.Dict.selfAndRest
 refine Ph (Ph (wpAny_notOrdered_dict md.typeIs (show wpAny _ _ (pure (d,[Value.ref o])) _ _ s from R8 ?_)))
 show wpAny _ _ (Builtin.Dict.updateFrom "dict.update" d (.ref o) [] .none) _ _ s
 unfold Builtin.Dict.updateFrom
 refine Ph (wpAny_typeOf mo.typeIs ?_)
 rw[aac (by decide)]
 unfold Builtin.Dict.merge Builtin.Dict.readDirectly
 refine Ph (Ph (Ph (wpAny_isInstance mo.typeIs isSubtype_dict_dict ?_)))
 simp only [Bool.not_true,aaV,ab3]
 refine Ph (abK mo.typeIs F.slot_dict_iter.lookup (R8 ?_))
 simp only [beq_self_eq_true,if_true]
 refine Ph (R8 (EL hu ne lo qt md mo hz λh' m s'=>?_))
 show wpAny _ _ (Builtin.Dict.addKeywords d [] >>= _) _ _ _
 exact Ph (R8 (R8 ⟨.none,rfl,q h' m s'⟩))
end
def putAll{Z:Type}[DecidableEq Z](kvs more:List (Z×V)):List (Z×V):=more.foldl (λacc kv=>putK acc kv.1 kv.2) kvs
section
variable{Z:Type}[DecidableEq Z]
theorem qZ(kvs:List (Z×V))(p:Z×V)(r:List (Z×V)):putAll kvs (p::r)=putAll (putK kvs p.1 p.2) r:=rfl
theorem pY:∀(more kvs:List (Z×V)),(putAll kvs more).length<=kvs.length+more.length
 | [],kvs=>Vb _
 | p::r,kvs=>by
  have h1:=pY r (putK kvs p.1 p.2)
  have h2:=iQ kvs p.1 p.2
  rw[qZ,W7]
  omega
theorem kt_merged{H:Hp}{more:List (List Key×V)}{ys:List (List Key×Addr×Value)}(r:KT H more ys):∀{kvs:List (List Key×V)} {xs:List (List Key×Addr×Value)},KT H kvs xs->KT H (putAll kvs more) (kA xs ys):=by
 induction r with
 | nil=>intro kvs xs r;exact r
 | @cons p q ps qs f t ih=>
  intro kvs xs r
  have z:=r.put p.1 (b:=q.2.1) f.2.1 f.2.2
  have z2:=ih z
  rw[show kA xs (q::qs)=kA (storedH xs q.1 q.2.1 q.2.2) qs from rfl,<-show p.1=q.1 from f.1]
  exact z2
theorem GW{more:List (Z×V)}{ys:List (Z×Value)}(r:KV more ys):∀{kvs:List (Z×V)} {xs:List (Z×Value)},KV kvs xs->KV (putAll kvs more) (merged xs ys):=by
 induction r with
 | nil=>intro kvs xs r;exact r
 | @cons p q ps qs f t ih=>
  intro kvs xs r
  have z:=ih (KV.put r p.1 f.2)
  rw[show merged xs (q::qs)=merged (stored xs q.1 q.2) qs from rfl,<-show p.1=q.1 from f.1]
  exact z
end
section
variable{X:Cx}{b_:Qqz}{Z:St}{H:Hp}{s:Shared}{a b:Addr}{A:Around}{E:Qqq}
theorem Lf{kvs:List (List Key×V)}{xs:List (List Key×Addr×Value)}(r:KT H kvs xs)(k:List Key):KT H (kD kvs k) (Dd xs k):=by
 induction r with
 | nil=>exact .nil
 | @cons p q ps qs f t ih=>
  unfold kD Dd
  by_cases e:p.1=k
  ·have e':q.1=k:=f.1.symm.trans e
   rw[aaf (by simp[e]),aaf (by simp[e'])]
   exact ih
  ·have e':¬q.1=k:=λz=>e (f.1.trans z)
   rw[aad (by simp[e]),aad (by simp[e'])]
   exact .cons f ih
theorem N0{kvs more:List (List Key×V)}{Q:Qqq}(hu:A.units+1<cLine)(I:Inv X b_ Z H s)(ha:H a=some (.dT kvs))(hb:Rd H b (.dT more))(ne:a≠b)(h0:kvs≠[])(hz:kvs.length+more.length<=sizeLine)
  (h:∀s',Inv X b_ Z (upd H a (.dT (putAll kvs more))) s'->Q .none s'):wpAny (model X.prog X.w) A (call (.builtin "dict.update") [.ref a,.ref b]) Q E s:=by
 obtain⟨z,lo,xs,rel,dd⟩:=Ic I.iC ha
 obtain⟨z2,V1,ys,J2,V2⟩:=xb I.iC hb
 have l1:=aaj rel
 have l2:=aaj J2
 have x0:xs≠[]:=λe=>h0 (aas.mp (by rw[l1,e];rfl))
 refine II (abz hu) ne V1 x0 dd V2 (by omega) λh' m hs=>h _ ?_
 obtain⟨q,es,ep,hq,h2,h3,h4,_,h5⟩:=m
 refine uJ (t':=s.toks) I (by rw[ha];exact True.intro) hs ⟨q,hq⟩ ⟨aao (pY _ _) hz,lo,_,(kt_merged J2 rel).keeps λc ys ec=>?_,q,es,ep,hq,h2,h3,h4,h5⟩
 rw[de (jc ec ha (λz=>nomatch z))]
 exact ec
theorem N1{kvs more:List (Key×V)}{Q:Qqq}(I:Inv X b_ Z H s)(ha:H a=some (.dK kvs))(hb:Rd H b (.dK more))(ne:a≠b)(hz:kvs.length+more.length<=sizeLine)
  (h:∀s',Inv X b_ Z (upd H a (.dK (putAll kvs more))) s'->Q .none s'):wpAny (model X.prog X.w) A (call (.builtin "dict.update") [.ref a,.ref b]) Q E s:=by
 obtain⟨z,lo,xs,rel,dd⟩:=Mz I.iC ha
 obtain⟨z2,V1,ys,J2,V2⟩:=xa I.iC hb
 have l1:=rel.length
 have l2:=J2.length
 refine call_meetsIn abZ dd.typeIs PySem.F.entry_dict_update (PySem.F.args_dict_update_2 _ _) (meets_dict_update (ja X.prog X.w) a b ne V1) ⟨xs,ys,dd,V2,by omega,λh' OV _ hs=>h _ ?_⟩
 have he:∃q,h'.get? a=some q:=let ⟨q,_,_,hq,_⟩:=OV;⟨q,hq⟩
 exact uJ (t':=s.toks) I (by rw[ha];exact True.intro) hs he (Ie (aao (pY _ _) hz) lo (GW J2 rel) OV)
theorem N2{kvs:List (List Key×V)}{k:List Key}{v:V}{Q:Qqq}(hu:A.units+1<cLine)(I:Inv X b_ Z H s)(ha:H a=some (.dT kvs))(hb:H b=some (.tup (k.map kV)))(l:iA kvs k=some v)
  (h:∀w' s',Inv X b_ Z (upd H a (.dT (kD kvs k))) s'->RelV v w'->Q w' s'):wpAny (model X.prog X.w) A (call (.builtin "dict.pop") [.ref a,.ref b]) Q E s:=by
 obtain⟨z,lo,xs,rel,dd⟩:=Ic I.iC ha
 have l1:=aaj rel
 obtain⟨w',hw,Eb⟩:=pS.some_of (v:=v) (o:=(atKey xs k).map (·.2)) (by rw[<-l];exact rel.val k)
 obtain⟨p,hp,yp⟩:=Option.map_eq_some_iff.mp hw
 obtain⟨od,TX,epd,TY,Bg,TZ,RZ,uM,O1⟩:=id dd
 refine aa8 PySem.F.slot_dict_pop dd.typeIs PySem.F.entry_dict_pop ?_ (PySem.F.args_dict_pop_2 _ _)
 unfold Builtin.«dict.pop» Builtin.Dict.keyAndDefault
 refine Ph (Ph (wpAny_notOrdered_dict dd.typeIs (show wpAny _ _ (pure (a,Value.ref b,none)) _ _ s from R8 ?_)))
 have part:(keyPart (Value.ref b)).isSome=false:=rfl
 simp only [part,aaV,ab3]
 refine Ph (aba TY TZ (Ph (R8 ?_)))
 have ne:TX.isEmpty=false:=by
  rw[abF]
  intro e
  have e:TX=#[]:=Array.isEmpty_iff.mp e
  have sz:=ach RZ
  rw[e] at sz
  have:xs=[]:=aas.mp sz.symm
  rw[this] at hp
  cases hp
 simp only [ne,aaV,ab3]
 refine Ph (IH (abz hu) (t_ I.iC hb) dd (by omega) hp λh' m hs=>?_)
 simp only [Option.isNone_some,aaV,ab3]
 refine Ph (wpAny_letGo (R8 ⟨p.2,rfl,?_⟩))
 rw[yp]
 refine h w' _ ?_ Eb
 obtain⟨q,es,ep,hq,h2,h3,h4,_,h5⟩:=m
 refine uJ I (by rw[ha];exact True.intro) hs ⟨q,hq⟩ ⟨aao (Ib _ _) z,lo,_,(Lf rel k).keeps λc ys ec=>?_,q,es,ep,hq,h2,h3,h4,h5⟩
 rw[de (jc ec ha (λz=>nomatch z))]
 exact ec
theorem Lg{d:Addr}{es:Array DictEntry}{ep:Nat}{Q:Qqq}{P:Program}{w:World}(lo:(d ==sysModules)=false)(r:vX s.heap d es ep)(fit:(es.size:Int)<2 ^ 63)
  (h:Q (.int es.size (s.toks+1)) {s with toks:=s.toks+1+1}):wpAny (model P w) A (Builtin.«len» ⟨[.ref d],[]⟩) (λfin s'=>∃r,fin=.done (.ret r)/\Q r s') E s:=by
 obtain⟨o,ho,hc,hd⟩:=id r
 unfold Builtin.«len»
 refine Ph (m:=oneArg "len" _) (R8 (Ph (m:=callSpecial? (.ref d) (Str.ofString "__len__")) (wpAny_callSpecial?_slot (name:=Str.ofString "__len__") r.ty F.slot_dict_len (aa8 F.slot_dict_len r.ty F.entry_dict_len ?_ (F.args_dict_len_1 _)))))
 show wpAny _ _ (dictSize d >>= _) _ _ s
 unfold dictSize
 refine Ph (Ph (aba ho hd (R8 ?_)))
 show wpAny _ _ (Builtin.Dict.pendingCount d >>= _) _ _ s
 refine Ph (wpAny_pendingCount_other lo (wpAny_ret_mkInt ?_))
 show wpAny _ _ _ _ _ {s with toks:=s.toks+1}
 refine Ph (aa9 (R8 (Ph (wpAny_letGo ?_))))
 show wpAny _ _ (if((es.size+0:Nat):Int)<0 then _ else _) _ _ _
 rw[aac (by omega),Nat.add_zero]
 show wpAny _ _ (if((es.size:Nat):Int)>=2 ^ 63 then _ else _) _ _ _
 rw[aac (by omega)]
 exact Ph (wpAny_mkInt (R8 ⟨_,rfl,h⟩))
theorem EM{d:Addr}{es:Array DictEntry}{ep:Nat}{Q:Bool->Shared->Prop}{P:Program}{w:World}(lo:(d ==sysModules)=false)(r:vX s.heap d es ep)(fit:(es.size:Int)<2 ^ 63)
  (h:Q ((es.size:Int) != 0) {s with toks:=s.toks+1+1}):wpAny (model P w) A (truthy (.ref d)) Q E s:=by
 have key:wpAny (model P w) A (runValue (.builtin "len" ⟨[.ref d],[]⟩)) (λr s'=>r=.int es.size (s.toks+1)/\Q ((es.size:Int) != 0) s') E s:=by
  refine wpAny_runValue (abM entry_len ?_)
  rw[abo plain_len _]
  refine abu (Lg (Q:=λr s'=>r=.int es.size (s.toks+1)/\Q ((es.size:Int) != 0) s') lo r fit ⟨rfl,h⟩) (λfin s' h'=>?_) λ_ _ e=>e
  obtain⟨r,rfl,hq⟩:=h'
  exact hq
 unfold truthy
 first
  | refine Ph (wpAny_callSpecial?_none (name:=Str.ofString "__bool__") r.ty noBool_dict ?_)
  | refine Ph (R8 (Ph (wpAny_callSpecial?_none (name:=Str.ofString "__bool__") r.ty noBool_dict ?_)))
 first
  | refine Ph (abK (name:=Str.ofString "__len__") r.ty F.slot_dict_len.lookup ?_)
  | refine Ph (R8 (Ph (abK (name:=Str.ofString "__len__") r.ty F.slot_dict_len.lookup ?_)))
 first
  | exact Ph (abu key (λr s' h'=>by obtain⟨rfl,hq⟩:=h';exact R8 hq) λ_ _ e=>e)
  | exact Ph (R8 (Ph (abu key (λr s' h'=>by obtain⟨rfl,hq⟩:=h';exact R8 hq) λ_ _ e=>e)))
end
def N3(td ty:TE):TE:=λZ H Q=>td Z H λx H1=>∃a,x=.ref a/\QK H1 a/\ty Z H1 λy H2=>∃b kvs more,y=.ref b/\H2 a=some (.dT kvs)/\Rd H2 b (.dT more)/\a≠b/\kvs≠[]/\kvs.length+more.length<=sizeLine/\Q .jb (upd H2 a (.dT (putAll kvs more)))
def N4(td ty:TE):TE:=λZ H Q=>td Z H λx H1=>∃a,x=.ref a/\QK H1 a/\ty Z H1 λy H2=>∃b kvs more,y=.ref b/\H2 a=some (.dK kvs)/\Rd H2 b (.dK more)/\a≠b/\kvs.length+more.length<=sizeLine/\Q .jb (upd H2 a (.dK (putAll kvs more)))
def N5(td ty:TE):TE:=λZ H Q=>td Z H λx H1=>∃a,x=.ref a/\QK H1 a/\ty Z H1 λy H2=>∃b kvs k v,y=.ref b/\H2 a=some (.dT kvs)/\H2 b=some (.tup (k.map kV))/\iA kvs k=some v/\Q v (upd H2 a (.dT (kD kvs k)))
section
variable{X:Cx}{o e f:Expr}{apos kY:Pos}{td ty tx:TE}
theorem IJ(hu:X.A.units+1<cLine)(ho:PE X o td)(he:PE X e ty)(m:M1 X o "update" apos e kY):PE X (.Call (.Attribute o "update" apos) [e] [] kY) (N3 td ty):=by
 intro b_ s Z H Q I h
 refine wpAny_Call_method m.base m.kL m.line ab4 abZ PySem.F.type_dict_update (iX (ho b_ s Z H _ I h) λu s1 iG=>?_)
 obtain⟨x,H1,I1,rx,a,ex,d,q1⟩:=iG
 subst ex
 obtain rfl:u=Value.ref a:=rx
 obtain⟨t1,t2,_⟩:=Br I1 d
 refine⟨t1,t2,?_⟩
 rw[m.trees]
 refine abp rfl (abD (abd (iX (he b_ s1 Z H1 _ I1 q1) λiv s2 iG=>?_)))
 obtain⟨y,H2,I2,ry,b,kvs,more,ey,ha,hb,ne,h0,hz,q2⟩:=iG
 refine abw ?_
 subst ey
 obtain rfl:iv=Value.ref b:=ry
 exact N0 hu I2 ha hb ne h0 hz λs3 I3=>⟨.jb,_,I3,rfl,q2⟩
theorem IK(ho:PE X o td)(he:PE X e ty)(m:M1 X o "update" apos e kY):PE X (.Call (.Attribute o "update" apos) [e] [] kY) (N4 td ty):=by
 intro b_ s Z H Q I h
 refine wpAny_Call_method m.base m.kL m.line ab4 abZ PySem.F.type_dict_update (iX (ho b_ s Z H _ I h) λu s1 iG=>?_)
 obtain⟨x,H1,I1,rx,a,ex,d,q1⟩:=iG
 subst ex
 obtain rfl:u=Value.ref a:=rx
 obtain⟨t1,t2,_⟩:=Br I1 d
 refine⟨t1,t2,?_⟩
 rw[m.trees]
 refine abp rfl (abD (abd (iX (he b_ s1 Z H1 _ I1 q1) λiv s2 iG=>?_)))
 obtain⟨y,H2,I2,ry,b,kvs,more,ey,ha,hb,ne,hz,q2⟩:=iG
 refine abw ?_
 subst ey
 obtain rfl:iv=Value.ref b:=ry
 exact N1 I2 ha hb ne hz λs3 I3=>⟨.jb,_,I3,rfl,q2⟩
theorem IL(hu:X.A.units+1<cLine)(ho:PE X o td)(he:PE X e ty)(m:M1 X o "pop" apos e kY):PE X (.Call (.Attribute o "pop" apos) [e] [] kY) (N5 td ty):=by
 intro b_ s Z H Q I h
 refine wpAny_Call_method m.base m.kL m.line ab4 PySem.F.slot_dict_pop PySem.F.type_dict_pop (iX (ho b_ s Z H _ I h) λu s1 iG=>?_)
 obtain⟨x,H1,I1,rx,a,ex,d,q1⟩:=iG
 subst ex
 obtain rfl:u=Value.ref a:=rx
 obtain⟨t1,t2,_⟩:=Br I1 d
 refine⟨t1,t2,?_⟩
 rw[m.trees]
 refine abp rfl (abD (abd (iX (he b_ s1 Z H1 _ I1 q1) λiv s2 iG=>?_)))
 obtain⟨y,H2,I2,ry,b,kvs,k,v,ey,ha,hb,l,q2⟩:=iG
 refine abw ?_
 subst ey
 obtain rfl:iv=Value.ref b:=ry
 exact N2 hu I2 ha hb l λw' s3 I3 Eb=>⟨v,_,I3,Eb,q2⟩
theorem GX{a:Expr}{ta:TE}(ha:PE X a ta)(he:∀whole,isTrue a X.env whole=(do let v <-whole;standAt a.pos;holding [v] (truthy v))) :
  PT X a (λZ H Q=>ta Z H λx H'=>∃p kvs,x=.ref p/\H' p=some (.dT kvs)/\Q (!kvs.isEmpty) H'):=by
 intro b_ s Z H Q I h
 refine isTrue_plain (iX (ha b_ s Z H _ I h) λv s1 iG=>?_) (he _)
 obtain⟨x,H1,I1,r1,p,kvs,ex,hp,q⟩:=iG
 subst ex
 obtain rfl:v=Value.ref p:=r1
 obtain⟨lo,hz,es,ep,raw,sz,_⟩:=yT (I1.iC p _ hp)
 have hs:sizeLine=16777216:=acr
 refine EM lo raw (by omega) ?_
 have e:((es.size:Int) != 0)=!kvs.isEmpty:=by rw[sz];cases kvs<;>simp<;>omega
 rw[e]
 exact⟨H1,I1.tok _,q⟩
end
theorem GY:bootBuiltins "enumerate"=some (.type "enumerate"):=by decide+kernel
section
variable{X:Cx}{b_:Qqz}{Z:St}{H:Hp}{s:Shared}{h':Heap}
theorem Inv.Lh{t':Nat}{a b:Addr}(I:Inv X b_ Z H s)(k:∀c o,c≠a->c≠b->s.heap.get? c=some o->h'.get? c=some o)(fa:tX X b_ H a)(fb:tX X b_ H b)
  (ha:∃o,h'.get? a=some o) (hb:∃o,h'.get? b=some o):Inv X b_ Z H {s with heap:=h',toks:=t'}:=by
 obtain⟨a0,a1,a2,a3,a4,a5⟩:=fa
 obtain⟨b0,b1,b2,b3,b4,b5⟩:=fb
 have na:∀c u,H c=some u->c≠a:=λc u e z=>by rw[z,a0] at e;cases e
 have nb:∀c u,H c=some u->c≠b:=λc u e z=>by rw[z,b0] at e;cases e
 have out:∀c,c∉[a,b]->c≠a/\c≠b:=λc hc=>⟨λz=>hc (by simp[z]),λz=>hc (by simp[z])⟩
 refine I.step (g':=s.gens) (d':=s.drawn) (ch:=[a,b]) (λc hc=>?_) (λc o _ _ hc e _=>k c o (out c hc).1 (out c hc).2 e) (λc o _ _ hc e _=>⟨o.slots,k c o (out c hc).1 (out c hc).2 e⟩) (λ_ _ _ _ n=>n)
  (λc o hc e=>⟨o,k c o (out c hc).1 (out c hc).2 e⟩) (λ_ _ e=>e) (λ_ _ _ e=>e) (λc ps e=>⟨#[],by rw[e];simp⟩) (λm hm=>?_) (λc u e=>?_) I.bare
 ·rcases V9.mp hc with z|z
  ·rw[z];exact⟨a3,a1,a4,a5⟩
  ·rw[Sd.mp z];exact⟨b3,b1,b4,b5⟩
 ·obtain⟨o,es,ep,ho,r⟩:=hm
  exact⟨o,es,ep,k _ o (abE a1) (abE b1) ho,r⟩
 ·refine(I.iC c u e).qU (λd v hd q=>k d v ?_ ?_ q) (λ_ q=>q) λ_ _ q=>q
  ·rcases hd with z|z
   ·rw[z];exact na c u e
   ·exact na d _ z
  ·rcases hd with z|z
   ·rw[z];exact nb c u e
   ·exact nb d _ z
end
def QV(K:Qqy)(a:Addr):It:=
 ⟨λi H=>∃xs x,h_ K H a xs/\xs[i]?=some x,λi H x H'=>∃t y,H t=none/\x=.ref t/\H'=upd H t (.tup [.int i,y])/\∀xs,h_ K H a xs->xs[i]?=some y,λi H=>∃xs,h_ K H a xs/\xs.length<=i⟩
theorem GZ{P:Program}{w:World}{K:Qqy}{elts:List Expr}{x1}{pos:Pos}(a e it:Addr)(qt:e≠it):Turn P w K (.Tuple elts x1 pos) (QV K a) [e,it] e (λi h=>(∃old,IsEnum h e it ((i:Nat):Int) old)/\h.IsListIter it a i) where
 mem:=by simp
 obj:=λi h ⟨⟨old,Fq⟩,zI⟩ b hb=>by
  rcases V9.mp hb with z|z
  ·subst z;exact⟨_,Fq,λv z=>by have z':Data.fields _=Data.cell v:=z;cases z'⟩
  ·rw[Sd.mp z]
   obtain⟨o,ho,c,d⟩:=zI
   exact⟨o,ho,λv z=>by rw[d] at z;cases z⟩
 keep:=λi h h' ⟨⟨old,Fq⟩,zI⟩ k=>⟨⟨old,k e (by simp) _ Fq⟩,zI.at λo ho=>k it (by simp) o ho⟩
 item:=by
  intro X hP hw hK hc i b_ s Z H E I hf ⟨⟨old,Fq⟩,zI⟩ hg
  subst hP hw hK
  obtain⟨xs,x,hq,hx⟩:=hg
  obtain⟨ib,rv,p,hz⟩:=I.list hq
  obtain⟨u,hu,ru⟩:=rv.get hx
  have fe:=hf e (by simp)
  have fi:=hf it (by simp)
  have V3:e<s.heap.objs.size:=aak Fq
  refine wpAny_pyNext_enum_item Fq zI p.isList (x:=u) (by simpa using hu) qt λh₁ JS V4 ht1 hz1 hk1=>?_
  refine⟨_,rfl,?_⟩
  refine wpAny_letOwnedTupleGo_enum JS λh₂ Y6 R5=>?_
  replace R5:Heap.SameBut e h₁ h₂:=R5
  have ht2:h₂.get? s.heap.objs.size=some {cls:=.type "tuple",data:=.seq #[.int i s.toks,u]}:=(R5.2 _ (ab1 V3)).trans ht1
  have R6:h₂.IsListIter it a (i+1):=V4.extBut R5.extBut (abE qt)
  have hfr:H s.heap.objs.size=none:=I.iC.fresh (Vb _)
  have rT:Vals [.int i,x] [.int i s.toks,u]:=.cons ⟨s.toks,rfl⟩ (.cons ru .nil)
  have I1:Inv X b_ Z (upd H s.heap.objs.size (.tup [.int i,x])) {s with heap:=s.heap.push {cls:=.type "tuple",data:=.seq #[.int i s.toks,u]},toks:=s.toks}:=
   I.laid (t':=s.toks) (λb u e=>Ve _ e) (Vb _) ⟨L2.kL,_,rT,⟨_,YK _ rfl,rfl,_,rfl⟩⟩
  have up:∀b,tX X b_ H b->b<s.heap.objs.size->tX X b_ (upd H s.heap.objs.size (.tup [.int i,x])) b:=λb f hb=>by
   obtain⟨f0,r⟩:=f
   exact⟨by rw[de (aaD hb)];exact f0,r⟩
  have MY:it<s.heap.objs.size:=by obtain⟨o,ho,_⟩:=id zI;exact aak ho
  obtain⟨oi,T2,_⟩:=id R6
  have I2:=I1.Lh (h':=h₂) (t':=s.toks+1) (a:=e) (b:=it) (λc o h1 h2 hc=>?_) (up e fe V3) (up it fi MY) ⟨_,Y6⟩ ⟨oi,T2⟩
  ·refine⟨.ref s.heap.objs.size,_,I2,rfl,⟨_,x,hfr,rfl,rfl,λys hy=>by rw[I.oZ hy hq];exact hx⟩,⟨⟨u,?_⟩,R6⟩,λb hb=>?_⟩
   ·have:((i+1:Nat):Int)=(i:Int)+1:=by push_cast;rfl
    rw[this];exact Y6
   ·rcases V9.mp hb with z|z
    ·subst z;exact(up _ fe V3).1
    ·rw[Sd.mp z];exact(up it fi MY).1
  ·by_cases Y7:c=s.heap.objs.size
   ·subst Y7
    have:(s.heap.push {cls:=.type "tuple",data:=.seq #[.int i s.toks,u]}).get? s.heap.objs.size=some {cls:=.type "tuple",data:=.seq #[.int i s.toks,u]}:=YK _ rfl
    rw[this] at hc;cases hc
    exact ht2
   ·have Bf:s.heap.get? c=some o:=(Heap.get?_push_cases hc).elim (λz=>absurd z.1 Y7) id
    exact(R5.2 c h1).trans (hk1 c o h1 h2 Bf)
 done:=by
  intro X hP hw hK hc i b_ s Z H E I hf ⟨⟨old,Fq⟩,zI⟩ hg
  subst hP hw hK
  obtain⟨xs,hq,hx⟩:=hg
  obtain⟨ib,rv,p,hz⟩:=I.list hq
  obtain⟨f0,f1,f2,f3,f4,f5⟩:=hf it (by simp)
  have hl:=rv.length
  exact wpAny_pyNext_enum_end (I.ok.hd hc) Fq zI p.isList (Array.getElem?_eq_none (by simp;omega)) λh' eb=>⟨rfl,I.turned (t':=s.toks) (λb o hb e=>eb b o hb e) f0 f1 f3 f4 f5⟩
 self:=λ_ _ _ _ _ ⟨⟨old,Fq⟩,zI⟩ h=>wpAny_pyIter_enum Fq h
def QW(K:Qqy)(ta:TA):TI:=λZ H R=>ta Z H λvs H1=>∃a,vs=[.ref a]/\(∃xs,h_ K H1 a xs)/\R (QV K a) H1
section
variable{X:Cx}
theorem Li{a:Expr}{ta:TA}{p pos:Pos}{elts:List Expr}{x1}{OT:Pos}(hg:Gl X "enumerate")(hm:X.mg "enumerate"=none)(ha:PA X [a] ta)(hs:starEach [a] X.env=[(false,eval a X.env)]:=by rfl):PI X (.Tuple elts x1 OT) (.Call (.Name "enumerate" p) [a] [] pos) (QW X.K ta):=by
 intro b_ s Z H R I h
 refine Call_ (lT I hg hm GY (aaN (iX (ha pos b_ s Z H _ I h) λus s1 iG=>?_) hs rfl))
 obtain⟨vs,H1,I1,r1,q1⟩:=iG
 obtain⟨l,rfl,⟨xs,hq⟩,q⟩:=q1
 obtain⟨u,rfl,ru⟩:=vals1 r1
 cases (show u=Value.ref l from ru)
 obtain⟨ib,rv,pp,hz⟩:=I1.list hq
 refine call_enumerate_list pp.isList λh' he hit hsz hk=>?_
 have I2:Inv X b_ Z H1 {s1 with heap:=h'}:=I1.kept (t':=s1.toks) hk
 refine wpAny_pyIter_enum he ?_
 refine⟨s1.heap.objs.size+1,[s1.heap.objs.size+1,s1.heap.objs.size],_,_,H1,rfl,I2,GZ l (s1.heap.objs.size+1) s1.heap.objs.size (Nat.succ_ne_self _),⟨⟨_,he⟩,hit⟩,λb hb=>?_,q⟩
 rcases V9.mp hb with z|z
 ·subst z;exact I1.xS (by omega) (I1.iC.fresh (by omega))
 ·rw[Sd.mp z];exact I1.xS (Vb _) (I1.iC.fresh (Vb _))
theorem IM{K:PySem.W.Frag}{a:Addr}{xs:List V}{g:TG}{tb:TS}{D:Ends}{Z:St}{H:Hp}(Pv:Nat->St->Hp->Prop)(h0:Pv 0 Z H)(hl:∀i Z H,i<=xs.length->Pv i Z H->h_ K H a xs)
  (hs:∀i x t Z H,xs[i]?=some x->Pv i Z H->H t=none->g (.ref t) Z (upd H t (.tup [.int i,x])) λZ2 H2=>tb {D with nx:=Pv (i+1),ct:=Pv (i+1),bk:=D.nx} Z2 H2) (hd:∀Z H,Pv xs.length Z H->D.nx Z H) :
  ∃W:Nat->Nat->St->Hp->Prop,(∃m,W 0 m Z H)/\∀i m Z H,W i m Z H->
   ((QV K a).stop i H/\D.nx Z H)\/((QV K a).go i H/\∃N:St->Hp->Prop,(∀Z' H',N Z' H'->∃m',m'<m/\W (i+1) m' Z' H')/\∀x H',(QV K a).Kr i H x H'->g x Z H' λZ2 H2=>tb {D with nx:=N,ct:=N,bk:=D.nx} Z2 H2):=by
 refine⟨λi m Z H=>m=xs.length-i/\i<=xs.length/\Pv i Z H,⟨xs.length,by simp,aaI _,h0⟩,?_⟩
 rintro i m Z H ⟨rfl,hi,p⟩
 have q:=hl i Z H hi p
 by_cases j9:i<xs.length
 ·refine .inr ⟨⟨xs,xs[i],q,R7 j9⟩,Pv (i+1),λZ' H' p'=>⟨xs.length-(i+1),by omega,rfl,j9,p'⟩,λx H' y=>?_⟩
  obtain⟨t,z,ht,rfl,rfl,y⟩:=y
  exact hs i z t Z _ (y xs q) p ht
 ·have e:i=xs.length:=by omega
  subst e
  exact .inl ⟨⟨xs,q,Vb _⟩,hd Z H p⟩
end
structure DF(K:Qqy)(mg:Qqx)(x:Str)(st:Stmt)(a:Addr)(d:FuncData)(ps:List Str):Prop where
 f:xc K x x st a d
 b:Binds K d ps []
 m:mg x=some (.ref a)
structure DM(K:Qqy)(C:Addr)(x q:Str)(st:Stmt)(a:Addr)(d:FuncData)(ps:List Str):Prop where
 f:xc K x q st a d
 b:Binds K d ps []
 t:Meth K C x a
def FI(K:Qqy)(x:Str)(st:Stmt)(f:Addr):Prop:=W.nsIn K mainGlobals x=some (some (.ref f))/\∃d,xc K x x st f d
def MI(K:Qqy)(C:Addr)(x q:Str)(st:Stmt)(f:Addr):Prop:=Meth K C x f/\∃d,xc K x q st f d
section
variable{K:Qqy}{x q:Str}{st:Stmt}{f C:Addr}{oc kV doc pm jv ct:Value}{od an:Option Addr}{HF:Array (Option Value)}
theorem QX(a:W.nsIn K mainGlobals x=some (some (.ref f)))(l:K.lookup f=some ⟨oc,od,.func (W.fnOf x x (oq st) (kQ st) (f_ st) .none kV doc pm an jv ct),HF⟩)(c:W.codeIn K jv x=true)(k:W.keepIn K (.ref f)=true):FI K x st f:=⟨a,_,Ij l c k⟩
theorem QY(a:W.findIn K (.ref C) x=some (some (.ref f)))(i:W.isFn K (.ref f)=true)(l:K.lookup f=some ⟨oc,od,.func (W.fnOf x q (oq st) (kQ st) (f_ st) .none kV doc pm an jv ct),HF⟩)(c:W.codeIn K jv q=true)(k:W.keepIn K (.ref f)=true):MI K C x q st f:=⟨⟨a,i,k⟩,_,Ij l c k⟩
end
noncomputable def YG(N P:List Str)(sc:Scope):Bool:=decide (sc.kind=.function)&&!sc.isCoroutine&&!sc.isGenerator&&decide N.Nodup&&decide (N.take P.length=P)&&P.all (λx=>decide (sc.names.lookup x=some .local)||decide (sc.names.lookup x=some .cell))&&sc.names.all (λy=>decide (y.2≠.free))
theorem nM{N P:List Str}{sc:Scope}(h:YG N P sc=true:=by decide+kernel):gs N P sc:=by
 unfold YG at h
 simp only [aaW,abl,Bool.not_eq_true',abO,acu] at h
 obtain⟨⟨⟨⟨⟨⟨a,b⟩,c⟩,d⟩,e⟩,f⟩,g⟩:=h
 exact⟨a,b,c,d,e,f,g⟩
section
variable{X:Cx}{x q m:Str}{st:Stmt}{f C:Addr}{fd:FuncData}{ps:List Str}{sp:Sp}{k j:Nat}{e o:Expr}{es:List Expr}{t:TA}{ta:TE}{p pos apos:Pos}{E:XK}
theorem n_(D:DF X.K X.mg x st f fd ps)(F:iq X.prog X.w X.K X.mg X.base lN k f fd ps sp)(hr:ke j X.A)(ha:PA X (e::es) t)(hk:k<=j:=by decide)(hg:Gl X x:=by rfl)(Fo:(x ==("__debug__":Str))=false:=by decide)(he:starEach (e::es) X.env=(false,eval e X.env)::starEach es X.env:=by rfl)(qP:(backTo pos (starEach es X.env)).any (·.1)=false:=by rfl):PE X (.Call (.Name x p) (e::es) [] pos) (HV sp [] E0 t):=uE F (hr.mono hk) hg D.m D.f.kp D.b .nil o6 ha Fo he qP
theorem YH(b:Bx X E)(D:DF X.K X.mg x st f fd ps)(F:iq X.prog X.w X.K X.mg X.base (xU X.prog X.w) k f fd ps sp)(hr:ke j X.A)(ha:PA X (e::es) t)(hk:k<=j:=by decide)(hg:Gl X x:=by rfl)(Fo:(x ==("__debug__":Str))=false:=by decide)(he:starEach (e::es) X.env=(false,eval e X.env)::starEach es X.env:=by rfl)(qP:(backTo pos (starEach es X.env)).any (·.1)=false:=by rfl):PE X (.Call (.Name x p) (e::es) [] pos) (HV sp [] E t):=uE F (hr.mono hk) hg D.m D.f.kp D.b .nil (MD b) ha Fo he qP
theorem IP{pl:Sem Bool}(h:PE X o ta)(c:El X.K C)(D:DM X.K C m q st f fd ps)(F:iq X.prog X.w X.K X.mg X.base lN k f fd ps sp)(hr:ke j X.A)(ha:PA X (e::es) t)(hk:k<=j:=by decide)(Fn:starEach (e::es) X.env=(false,eval e X.env)::starEach es X.env:=by rfl)(qP:(backTo pos (starEach es X.env)).any (·.1)=false:=by rfl)
 (ht:eval (.Call (.Attribute o m apos) (e::es) [] pos) X.env=(do
  let ov <-eval o X.env
  standAt apos.atName
  let (f,first) <-holding [ov] (getMethod ov m pl)
  callWith pos f first (backTo pos (starEach (e::es) X.env)) (backToKw pos (keywordEach [] X.env))):=by rfl):PE X (.Call (.Attribute o m apos) (e::es) [] pos) (FH C m sp [] E0 ta t):=FJ h c D.t F (hr.mono hk) D.b .nil o6 ha Fn qP ht
theorem Lj(b:Bx X E){pl:Sem Bool}(h:PE X o ta)(c:El X.K C)(D:DM X.K C m q st f fd ps)(F:iq X.prog X.w X.K X.mg X.base (xU X.prog X.w) k f fd ps sp)(hr:ke j X.A)(ha:PA X (e::es) t)(hk:k<=j:=by decide)(Fn:starEach (e::es) X.env=(false,eval e X.env)::starEach es X.env:=by rfl)(qP:(backTo pos (starEach es X.env)).any (·.1)=false:=by rfl)
 (ht:eval (.Call (.Attribute o m apos) (e::es) [] pos) X.env=(do
  let ov <-eval o X.env
  standAt apos.atName
  let (f,first) <-holding [ov] (getMethod ov m pl)
  callWith pos f first (backTo pos (starEach (e::es) X.env)) (backToKw pos (keywordEach [] X.env))):=by rfl):PE X (.Call (.Attribute o m apos) (e::es) [] pos) (FH C m sp [] E ta t):=FJ h c D.t F (hr.mono hk) D.b .nil (MD b) ha Fn qP ht
end
section
variable{P:Program}{w:World}{K:Qqy}{mg:Qqx}{base:Heap}
theorem xc.pR{x qual:Str}{st:Stmt}{f:Addr}{fd:FuncData}{N ps:List Str}{k:Nat}{sp:Sp}(F:xc K x qual st f fd)(S:gs N ps (f_ st))(vI:∀(jv:Value)(A:Around)(outer:List Env)(s:Shared)(H:Hp)(vs:List V)(Q:VK)(E:XK),ke k (A.deeper (envOfC qual (f_ st) s.heap.objs.size f jv))->sp vs H Q E->∃t,Ek (vR lN P w K mg base N qual (f_ st) f jv A outer s H E).Mr (kQ st) t/\t {nx:=λ_ H'=>Q .jb H',rt:=Q} (start N vs) H)(len:∀vs H Q E,sp vs H Q E->vs.length=ps.length:=by intro _ _ _ _ h;repeat (first|(obtain⟨rfl,_⟩:=h;rfl)|obtain⟨_,h⟩:=h)):iq P w K mg base lN (k+1) f fd ps sp:=F.ok S len vI
theorem xc.yV{x qual:Str}{st:Stmt}{f:Addr}{fd:FuncData}{N ps:List Str}{k:Nat}{sp:Sp}(F:xc K x qual st f fd)(S:gs N ps (f_ st))(vI:∀(jv:Value)(A:Around)(outer:List Env)(s:Shared)(H:Hp)(vs:List V)(Q:VK)(E:XK),ke k (A.deeper (envOfC qual (f_ st) s.heap.objs.size f jv))->sp vs H Q E->∃t,Ek (vR (xU P w) P w K mg base N qual (f_ st) f jv A outer s H E) (kQ st) t/\t {nx:=λ_ H'=>Q .jb H',rt:=Q} (start N vs) H)(len:∀vs H Q E,sp vs H Q E->vs.length=ps.length:=by intro _ _ _ _ h;repeat (first|(obtain⟨rfl,_⟩:=h;rfl)|obtain⟨_,h⟩:=h)):iq P w K mg base (xU P w) (k+1) f fd ps sp:=F.Tz S len vI
end
section
variable{X:Cx}{pos:Pos}
theorem lg(i:Nat){x:Str}{e:Expr}{te:TE}{pos':Pos}{N ps:List Str}{sc:Scope}(S:gs N ps sc)(he:PE X e te)(hN:X.N=N:=by rfl)(hi:X.N[i]?=some x:=by rfl)(hx:X.env.scope.names.lookup x=some .local:=by rfl)(hs:swapsWith e (some (.Name x pos')) pos.line X.env=pure false:=by rfl):PS X (.Assign [.Name x pos'] e pos) (HN te (o3 i)):=lU (hN▸S.nd) hi (.inl hx) he hs (.inr hx)
theorem uc(i:Nat){x:Str}{N ps:List Str}{sc:Scope}(S:gs N ps sc)(hN:X.N=N:=by rfl)(hi:X.N[i]?=some x:=by rfl)(hx:X.env.scope.names.lookup x=some .local:=by rfl):PG X (.Name x pos) (o3 i):=iK (hN▸S.nd) hi (.inl hx) (.inr hx)
end
section
variable{K:Qqy}
theorem xc.bd{x qual:Str}{st:Stmt}{f:Addr}{fd:FuncData}{ps:List Str}(F:xc K x qual st f fd)(h:∀(kV doc pm:Value)(an:Option Addr)(jv ct:Value)(us:List Value),us.length=ps.length->bindArgs (W.fnOf x qual (oq st) (kQ st) (f_ st) .none kV doc pm an jv ct) ⟨us,[]⟩=pure (ps.zip us):=by intro _ _ _ _ _ _ us hl;(repeat (rcases us with _|⟨_,us⟩<;>first|(simp at hl;done)|skip));rfl):Binds K fd ps []:=F.binds h
end
section
variable{X:Cx}{a b:Expr}{ta tb:TE}{pos:Pos}{k:Nat}
theorem vY(ha:PE X a ta)(hb:PE X b tb)(hs:FN b:=by exact λ_ _=>rfl):PE X (.Subscript a b pos) (QA (QH X.K) ta tb):=jA kx ha hb hs
theorem Af(hr:ke k X.A)(ha:PE X a ta)(hb:PE X b tb)(hs:NL b:=by exact λ_ _=>rfl):PE X (.Subscript a b pos) (MA ta tb):=K1 (iS hr) ha hb hs
theorem Bz(h:PE X a ta)(e:ta=tb:=by(try simp only [kR]);rfl):∃t,PE X a t/\t=tb:=⟨_,h,e⟩
end
def ov(R H:Hp):Hp:=λb=>match R b with|some o=>some o|none=>H b
structure Apart(R H:Hp):Prop where
 lst:∀b o,R b=some o->∃xs,o=.lst xs
 jb:∀b o,R b=some o->H b=none
section
variable{R H H':Hp}{b p:Addr}{o:HO}
theorem kE(e:R b=some o):ov R H b=some o:=by unfold ov;rw[e]
theorem lX(e:R b=none):ov R H b=H b:=by unfold ov;rw[e]
theorem EN:ov (λ_=>none) H=H:=rfl
theorem Apart.out(a:Apart R H)(e:H b=some o):R b=none:=by
 cases h:R b with
 | none=>rfl
 | some u=>rw[a.jb b u h] at e;cases e
theorem Apart.at(a:Apart R H)(e:H b=some o):ov R H b=some o:=by rw[lX (a.out e)];exact e
theorem Apart.same(a:Apart R H):gg H (ov R H):=λ_ _ e=>a.at e
theorem mw(h:ov R H b=none):R b=none/\H b=none:=by
 cases e:R b with
 | none=>rw[lX e] at h;exact⟨rfl,h⟩
 | some u=>rw[kE e] at h;cases h
theorem sA(h:ov R H b=some o)(hl:∀xs,o≠.lst xs)(a:Apart R H):H b=some o:=by
 cases e:R b with
 | none=>rw[lX e] at h;exact h
 | some u=>
  rw[kE e] at h
  cases h
  obtain⟨xs,z⟩:=a.lst b _ e
  exact absurd z (hl xs)
theorem IQ(e:R p=none):upd (ov R H) p o=ov R (upd H p o):=by
 funext c
 by_cases h:c=p
 ·subst h;rw[a_,lX e,a_]
 ·rw[de h]
  cases hc:R c with
  | none=>rw[lX hc,lX hc,de h]
  | some u=>rw[kE hc,kE hc]
theorem vZ:upd (ov R H) p o=ov (upd R p o) H:=by
 funext c
 by_cases h:c=p
 ·subst h;rw[a_,kE a_]
 ·rw[de h]
  cases hc:R c with
  | none=>rw[lX hc,lX (by rw[de h];exact hc)]
  | some u=>rw[kE hc,kE (by rw[de h];exact hc)]
theorem Apart.back(a:Apart R H)(s:gg (ov R H) H'):∃H1,H'=ov R H1/\Apart R H1/\gg H H1:=by
 refine⟨λb=>match R b with|some _=>none|none=>H' b,?_,⟨a.lst,λb o e=>by show(match R b with|some _=>none|none=>H' b)=none;rw[e]⟩,λb o e=>?_⟩
 ·funext b
  cases e:R b with
  | none=>rw[lX e];show _=(match R b with|some _=>none|none=>H' b);rw[e]
  | some o=>rw[kE e];exact s b o (kE e)
 ·show(match R b with|some _=>none|none=>H' b)=some o
  rw[a.out e]
  exact s b o (a.at e)
theorem Apart.nil:Apart (λ_=>none) H:=⟨λ_ _ e=>(by cases e),λ_ _ e=>(by cases e)⟩
theorem Apart.put(a:Apart R H)(hp:H p=none)(xs:List V):Apart (upd R p (.lst xs)) H:=by
 refine⟨λb o e=>?_,λb o e=>?_⟩
 ·by_cases h:b=p
  ·subst h;rw[a_] at e;cases e;exact⟨xs,rfl⟩
  ·rw[de h] at e;exact a.lst b o e
 ·by_cases h:b=p
  ·subst h;exact hp
  ·rw[de h] at e;exact a.jb b o e
theorem Apart.new(a:Apart R H)(e:R p=none):Apart R (upd H p o):=⟨a.lst,λb u z=>by
 rw[de (λh=>by rw[h,e] at z;cases z)]
 exact a.jb b u z⟩
end
def FQ(sp:Sp):Sp:=λvs H Q E=>∃R H1,Apart R H1/\H=ov R H1/\sp vs H1 (λv H'=>Apart R H'->Q v (ov R H')) E
theorem iq.FQ{P:Program}{w:World}{K:Qqy}{mg:Qqx}{base:Heap}{k:Nat}{f:Addr}{fd:FuncData}{ps:List Str}{sp:Sp}(F:iq P w K mg base lN k f fd ps sp):iq P w K mg base lN k f fd ps (L2.FQ sp):=by
 refine⟨λvs H Q E ⟨_,_,_,_,h⟩=>F.len _ _ _ _ h,λA outer s H args us vs Q E hr e hb hv h=>?_⟩
 obtain⟨R,H1,ap,rfl,h⟩:=h
 have V5:qD P w H1 s.heap:=λa o z=>(e.iC a o (ap.at z)).qU (λ_ _ _ q=>q) (λb q=>sA q (λ_ z=>by cases z) ap) (λb xs q=>sA q (λ_ z=>by cases z) ap)
 have e1:CW P w K mg base A outer s H1:=⟨e.frames,e.mod,λb o z=>⟨(e.bs b o z).1,(mw (e.bs b o z).2).2⟩,e.Ko,e.tW,λb z=>(mw (e.Kq b z)).2,V5,e.bare⟩
 refine acd (F.run A outer s H1 args us vs _ E hr e1 hb hv h) λr s' hq=>?_
 cases r with
 | error x=>exact hq
 | ok fl=>
  cases fl with
  | ret u=>
   obtain⟨v,H',os,bare,un,iC,rv,q⟩:=hq
   have kp:∀b o,R b=some o->(∃ob,s.heap.get? b=some ob)/\b∉tm outer:=λb o z=>by
    obtain⟨xs,rfl⟩:=ap.lst b o z
    obtain⟨_,_,_,_,g⟩:=e.iC b _ (kE z)
    exact⟨⟨_,g⟩,λm=>by have:=(mw (e.Kq b m)).1;rw[z] at this;cases this⟩
   have P2:Apart R H':=⟨ap.lst,λb o z=>by
    obtain⟨⟨ob,g⟩,_⟩:=kp b o z
    exact un.free b ob g (ap.jb b o z) (by simp)⟩
   refine⟨v,ov R H',os,bare,⟨λb o g n hb hx=>un.keep b o g (mw n).2 hb hx,λb o g n hb hx=>un.slot b o g (mw n).2 hb hx,λb o g n hx=>?_,un.there,λb xs g=>?_,λb o u g=>?_,λb ps g=>?_⟩,λa o z=>?_,rv,q P2⟩
   ·rw[lX (mw n).1]
    exact un.free b o g (mw n).2 hx
   ·exact P2.at (un.pT b xs (sA g (λ_ z=>by cases z) ap))
   ·exact P2.at (un.tV b o u (sA g (λ_ z=>by cases z) ap))
   ·obtain⟨more,g'⟩:=un.vK b ps (sA g (λ_ z=>by cases z) ap)
    exact⟨more,P2.at g'⟩
   ·cases hc:R a with
    | none=>
     rw[lX hc] at z
     exact(iC a o z).qU (λ_ _ _ q=>q) (λb q=>P2.at q) (λb xs q=>P2.at q)
    | some u=>
     rw[kE hc] at z
     cases z
     obtain⟨xs,rfl⟩:=ap.lst a _ hc
     obtain⟨z1,ib,n,r,g⟩:=e.iC a _ (kE hc)
     exact⟨z1,ib,n,r,un.keep a _ g (ap.jb a _ hc) (kp a _ hc).2 (by simp)⟩
  | next=>exact False.elim hq
  | brk=>exact False.elim hq
  | cont=>exact False.elim hq
end L2
namespace K01
section
variable{Z:Type}[DecidableEq Z]
def lcs:List Z->List Z->Nat
 | [],_=>0
 | _::_,[]=>0
 | a::as,b::bs=>if b=a then lcs as bs+1 else max (lcs as (b::bs)) (lcs (a::as) bs)
termination_by x y=>x.length+y.length
def ud:List Z->List Z->Nat
 | [],_=>0
 | _::_,[]=>0
 | a::as,b::bs=>if a=b then max (max (ud as (b::bs)) (ud (a::as) bs)) (ud as bs+1) else max (ud as (b::bs)) (ud (a::as) bs)
termination_by x y=>x.length+y.length
def mY(x y:List Z)(n:Nat):Prop:=(∀s:List Z,s.Sublist x->s.Sublist y->s.length<=n)/\∃s:List Z,s.Sublist x/\s.Sublist y/\s.length=n
theorem mY.uniq{x y:List Z}{n m:Nat}(h:mY x y n)(g:mY x y m):n=m:=by
 obtain⟨h1,s,a,b,e⟩:=h
 obtain⟨g1,t,c,d,f⟩:=g
 have:=g1 s a b
 have:=h1 t c d
 omega
theorem mY.yW(y:List Z):mY [] y 0:=⟨λs a _=>by have:=a.length_le;simpa using this,[],aaC _,List.nil_sublist _,rfl⟩
theorem mY.v_(x:List Z):mY x [] 0:=⟨λs _ b=>by have:=b.length_le;simpa using this,[],List.nil_sublist _,aaC _,rfl⟩
theorem ly{s as:List Z}{a:Z}(h:s.Sublist (a::as)):s.Sublist as\/∃t,s=a::t/\t.Sublist as:=by
 cases h with
 | cons _ h=>exact .inl h
 | cons_cons _ h=>exact .inr ⟨_,rfl,h⟩
theorem mY.eq{as bs:List Z}{a:Z}{n:Nat}(h:mY as bs n):mY (a::as) (a::bs) (n+1):=by
 obtain⟨h1,s,x,y,e⟩:=h
 refine⟨λt c d=>?_,a::s,x.cons_cons a,y.cons_cons a,by rw[W7,e]⟩
 rcases ly c with c2|⟨u,e2,c2⟩
 ·rcases ly d with d2|⟨v,e3,d2⟩
  ·have:=h1 t c2 d2;omega
  ·subst e3
   have:=h1 v ((abq a v).trans c2) d2
   rw[W7];omega
 ·have d':u.Sublist bs:=by
   subst e2
   rcases ly d with d2|⟨v,e',d2⟩
   ·exact(abq a u).trans d2
   ·cases e';exact d2
  have:=h1 u c2 d'
  subst e2
  rw[W7];omega
theorem mY.ne{as bs:List Z}{a b:Z}{n m:Nat}(Cj:a≠b)(h:mY as (b::bs) n)(g:mY (a::as) bs m):mY (a::as) (b::bs) (max n m):=by
 obtain⟨h1,s,x,y,e⟩:=h
 obtain⟨g1,s',x',y',e'⟩:=g
 refine⟨λt c d=>?_,?_⟩
 ·rcases ly c with c'|⟨u,rfl,_⟩
  ·have:=h1 t c' d;omega
  ·rcases ly d with d'|⟨v,e,_⟩
   ·have:=g1 _ c d';omega
   ·cases e;exact absurd rfl Cj
 ·by_cases O2:m<=n
  ·exact⟨s,x.cons a,y,by omega⟩
  ·exact⟨s',x',y'.cons b,by omega⟩
theorem jN:∀x y:List Z,mY x y (lcs x y)
 | [],y=>by rw[lcs];exact .yW y
 | a::as,[]=>by rw[lcs];exact .v_ _
 | a::as,b::bs=>by
  rw[lcs]
  by_cases h:b=a
  ·rw[aag h];subst h;exact(jN as bs).eq
  ·rw[aac h];exact .ne (λe=>h e.symm) (jN as (b::bs)) (jN (a::as) bs)
termination_by x y=>x.length+y.length
theorem pb:∀x y:List Z,mY x y (ud x y)
 | [],y=>by rw[ud];exact .yW y
 | a::as,[]=>by rw[ud];exact .v_ _
 | a::as,b::bs=>by
  rw[ud]
  by_cases h:a=b
  ·rw[aag h];subst h
   have p:=(pb as bs).eq (a:=a)
   have q:=pb as (a::bs)
   have r:=pb (a::as) bs
   have hq:ud as (a::bs)<=ud as bs+1:=by
    obtain⟨_,s,x,y,e⟩:=q
    rw[<-e];exact p.1 s (x.cons a) y
   have hr:ud (a::as) bs<=ud as bs+1:=by
    obtain⟨_,s,x,y,e⟩:=r
    rw[<-e];exact p.1 s x (y.cons a)
   rw[Nat.max_eq_right (Nat.max_le.mpr ⟨hq,hr⟩)]
   exact p
  ·rw[aac h];exact .ne h (pb as (b::bs)) (pb (a::as) bs)
termination_by x y=>x.length+y.length
theorem yg(x y:List Z):ud x y=lcs x y:=(pb x y).uniq (jN x y)
theorem Lk(x:List Z):lcs x []=0:=(jN x []).uniq (.v_ x)
theorem FR(y:List Z):lcs [] y=0:=(jN [] y).uniq (.yW y)
theorem uN{x x' y y':List Z}(h:x.Sublist x')(g:y.Sublist y'):lcs x y<=lcs x' y':=by
 obtain⟨_,s,a,b,e⟩:=jN x y
 rw[<-e]
 exact(jN x' y').1 s (a.trans h) (b.trans g)
theorem xh(x y:List Z):lcs x y<=x.length:=by
 obtain⟨_,s,a,b,e⟩:=jN x y
 rw[<-e];exact a.length_le
def i4(a:Z)(new:List Z)(j:Nat):Option Nat:=((new.drop j).findIdx? (·=a)).map (j+·)
def pd(new:List Z):Nat->List Z->Nat->List (Nat×Nat)
 | _,[],_=>[]
 | i,a::as,j=>match i4 a new j with
  | none=>pd new (i+1) as j
  | some k=>if lcs as (new.drop (k+1))+1=lcs (a::as) (new.drop j) then(i,k)::pd new (i+1) as (k+1) else pd new (i+1) as j
def kept(old new:List Z):List (Nat×Nat):=pd new 0 old 0
theorem kj{a:Z}{new:List Z}{j k:Nat}(h:i4 a new j=some k):j<=k/\new[k]?=some a/\∀l,j<=l->l<k->new[l]?≠some a:=by
 unfold i4 at h
 cases e:(new.drop j).findIdx? (·=a) with
 | none=>rw[e] at h;cases h
 | some d=>
  rw[e] at h
  have h:j+d=k:=aal h
  subst h
  obtain⟨hd,h1,h2⟩:=List.findIdx?_eq_some_iff_getElem.mp e
  have h1:(new.drop j)[d]=a:=by simpa using h1
  refine⟨Nat.le_add_right _ _,?_,λl hl hk q=>?_⟩
  ·rw[<-acb,R7 hd,h1]
  ·have:=h2 (l-j) (by omega)
   have hq:(new.drop j)[l-j]?=some a:=by rw[acb,show j+(l-j)=l by omega];exact q
   obtain⟨hh,he⟩:=List.getElem?_eq_some_iff.mp hq
   simp[he] at this
theorem nN{a:Z}{new:List Z}{j:Nat}(h:i4 a new j=none):∀l,j<=l->new[l]?≠some a:=by
 unfold i4 at h
 cases e:(new.drop j).findIdx? (·=a) with
 | some d=>rw[e] at h;cases h
 | none=>
  intro l hl q
  have hq:(new.drop j)[l-j]?=some a:=by rw[acb,show j+(l-j)=l by omega];exact q
  have:=List.findIdx?_eq_none_iff.mp e a (Xj hq)
  simp at this
theorem IS{a:Z}{as y:List Z}(h:a∉y):lcs (a::as) y=lcs as y:=by
 refine(jN (a::as) y).uniq ⟨λs c d=>?_,?_⟩
 ·rcases ly c with c|⟨t,rfl,c⟩
  ·exact(jN as y).1 s c d
  ·exact absurd (d.subset aae) h
 ·obtain⟨_,s,c,d,e⟩:=jN as y
  exact⟨s,c.cons a,d,e⟩
theorem kS{new:List Z}{k:Nat}{a:Z}(h:new[k]?=some a):new.drop k=a::new.drop (k+1):=by
 obtain⟨hk,e⟩:=List.getElem?_eq_some_iff.mp h
 rw[aaU hk,e]
theorem uO{new:List Z}{j k:Nat}(h:j<=k):(new.drop k).Sublist (new.drop j):=by
 have:new.drop k=(new.drop j).drop (k-j):=by rw[List.drop_drop];congr 1;omega
 rw[this];exact List.drop_sublist _ _
theorem yh{a:Z}{as new:List Z}{j l:Nat}(hl:j<=l)(h:new[l]?=some a):lcs as (new.drop (l+1))+1<=lcs (a::as) (new.drop j):=by
 have:lcs (a::as) (new.drop l)<=lcs (a::as) (new.drop j):=uN (aaC _) (uO hl)
 rw[kS h,lcs,aag rfl] at this
 exact this
theorem yX{a:Z}{as new:List Z}{j k:Nat}(h:i4 a new j=some k)(qt:lcs as (new.drop (k+1))+1≠lcs (a::as) (new.drop j)):lcs (a::as) (new.drop j)=lcs as (new.drop j):=by
 obtain⟨R9,hk,Mb⟩:=kj h
 have h1:=yh (as:=as) R9 hk
 have h2:lcs as (new.drop j)<=lcs (a::as) (new.drop j):=uN (abq a as) (aaC _)
 obtain⟨hs,s,c,d,e⟩:=jN (a::as) (new.drop j)
 rcases ly c with c2|⟨t,es,c2⟩
 ·have:=(jN as (new.drop j)).1 s c2 d;omega
 ·exfalso
  subst es
  have key:∀(n:Nat)(j:Nat),k-j=n->j<=k->(∀l,j<=l->l<k->new[l]?≠some a)->(a::t).Sublist (new.drop j)->t.Sublist (new.drop (k+1)):=by
   intro n
   induction n with
   | zero=>
    intro j e1 e2 _ d
    have:j=k:=by omega
    subst this
    rw[kS hk] at d
    rcases ly d with d|⟨u,e,d⟩
    ·exact(abq a t).trans d
    ·cases e;exact d
   | succ n ih=>
    intro j e1 e2 hm d
    have hj:j<new.length:=by
     have:=(List.getElem?_eq_some_iff.mp hk).1;omega
    rw[aaU hj] at d
    rcases ly d with d|⟨u,e,_⟩
    ·exact ih (j+1) (by omega) (by omega) (λl hl=>hm l (by omega)) d
    ·exfalso
     have e0:a=new[j]:=(List.cons.inj e).1
     exact hm j (Vb _) (by omega) (by rw[R7 hj,<-e0])
  have ht:=key _ j rfl R9 Mb d
  have:=(jN as (new.drop (k+1))).1 t c2 ht
  rw[W7] at e
  omega
theorem G0{a:Z}{as new:List Z}{j:Nat}(h:i4 a new j=none):lcs (a::as) (new.drop j)=lcs as (new.drop j):=by
 refine IS λm=>?_
 obtain⟨l,hl⟩:=aaT.mp m
 rw[acb] at hl
 exact nN h (j+l) (Nat.le_add_right _ _) hl
theorem lA(new:List Z):∀(old:List Z)(i j:Nat),(pd new i old j).length=lcs old (new.drop j)
 | [],i,j=>by rw[pd,FR];rfl
 | a::as,i,j=>by
  unfold pd
  cases h:i4 a new j with
  | none=>simp only;rw[lA new as,G0 h]
  | some k=>
   simp only
   by_cases hc:lcs as (new.drop (k+1))+1=lcs (a::as) (new.drop j)
   ·rw[aag hc,W7,lA new as];exact hc
   ·rw[aac hc,lA new as,yX h hc]
inductive Good(old new:List Z):Nat->Nat->List (Nat×Nat)->Prop
 | nil (i j):Good old new i j []
 | cons {i j p q r} (h1:i<=p) (h2:j<=q) (a:Z) (e1:old[p]?=some a) (e2:new[q]?=some a)
  (h3:∀l m,i<=l->l<=p->j<=m->(l<p\/m<q)->∀b,old[l]?=some b->new[m]?=some b->¬r.length<=lcs (old.drop (l+1)) (new.drop (m+1)))
  (t:Good old new (p+1) (q+1) r):Good old new i j ((p,q)::r)
theorem Good.back{old new:List Z}{i j:Nat}{a:Z}{r:List (Nat×Nat)}(ha:old[i]?=some a)(hl:r.length=lcs (old.drop (i+1)) (new.drop j))(hn:∀m,j<=m->new[m]?=some a->lcs (old.drop (i+1)) (new.drop (m+1))+1≠r.length/\lcs (old.drop (i+1)) (new.drop (m+1))+1<=r.length)
  (h:Good old new (i+1) j r):Good old new i j r:=by
 cases h with
 | nil=>exact .nil _ _
 | @cons _ _ p q r h1 h2 b e1 e2 h3 t=>
  refine .cons (by omega) h2 b e1 e2 (λl m P4 JV hm j9 c c1 c2 hle=>?_) t
  by_cases e:l=i
  ·subst e
   rw[ha] at c1
   cases c1
   have z:=hn m hm c2
   rw[W7] at z
   omega
  ·exact h3 l m (by omega) JV hm j9 c c1 c2 hle
theorem pZ{old new:List Z}:∀(rest:List Z)(i j:Nat),old.drop i=rest->Good old new i j (pd new i rest j)
 | [],i,j,_=>by rw[pd];exact .nil _ _
 | a::as,i,j,e=>by
  have ha:old[i]?=some a:=by
   have:(old.drop i)[0]?=some a:=by rw[e];rfl
   rwa [acb,Nat.add_zero] at this
  have e':old.drop (i+1)=as:=by
   have:=kS ha;rw[e] at this;exact(List.cons.inj this).2.symm
  have L:=lA new as (i+1) j
  unfold pd
  cases h:i4 a new j with
  | none=>
   simp only
   refine Good.back ha (by rw[L,e']) (λm hm q=>absurd q (nN h m hm)) (pZ as (i+1) j e')
  | some k=>
   obtain⟨R9,hk,Mb⟩:=kj h
   simp only
   by_cases hc:lcs as (new.drop (k+1))+1=lcs (a::as) (new.drop j)
   ·rw[aag hc]
    refine .cons (Vb _) R9 a ha hk (λl m P4 JV hm j9 b c1 c2 _=>?_) (pZ as (i+1) (k+1) e')
    have:l=i:=by omega
    subst this
    rw[ha] at c1
    cases c1
    exact Mb m hm (by omega) c2
   ·rw[aac hc]
    have S:=yX h hc
    refine Good.back ha (by rw[L,e']) (λm hm q=>?_) (pZ as (i+1) j e')
    rw[L,e',<-S]
    have h1:=yh (as:=as) hm q
    refine⟨λz=>?_,h1⟩
    have hkm:k<=m:=by
     rcases Nat.lt_or_ge m k with z'|z'
     ·exact absurd q (Mb m hm z')
     ·exact z'
    have h2:lcs as (new.drop (m+1))<=lcs as (new.drop (k+1)):=uN (aaC _) (uO (by omega))
    have h3:=yh (as:=as) R9 hk
    omega
theorem wa(old new:List Z):Good old new 0 0 (kept old new):=pZ old 0 0 rfl
theorem xi(old new:List Z):(kept old new).length=lcs old new:=lA new old 0 0
def pre(old new:List Z)(i k:Nat):Nat:=lcs (old.take i) (new.take k)
def kU(old new:List Z)(i j:Nat):Nat:=lcs (old.drop i) (new.drop j)
theorem lB{old new:List Z}{i j:Nat}(h:old.length<=i\/new.length<=j):kU old new i j=0:=by
 unfold kU
 rcases h with h|h
 ·rw[List.drop_eq_nil_of_le h,FR]
 ·rw[List.drop_eq_nil_of_le h,Lk]
theorem IT{old new:List Z}{i j:Nat}{a b:Z}(ha:old[i]?=some a)(hb:new[j]?=some b) :
  kU old new i j=if a=b then max (max (kU old new (i+1) j) (kU old new i (j+1))) (1+kU old new (i+1) (j+1)) else max (kU old new (i+1) j) (kU old new i (j+1)):=by
 unfold kU
 rw[<-yg (old.drop i),kS ha,kS hb,ud,<-kS ha,<-kS hb,yg,yg,yg,Nat.add_comm 1]
theorem Ll{old new:List Z}{i j:Nat}{a b:Z}(ha:old[i]?=some a)(hb:new[j]?=some b) :
  kU old new i j=if b=a then kU old new (i+1) (j+1)+1 else max (kU old new (i+1) j) (kU old new i (j+1)):=by
 unfold kU
 rw[kS ha,kS hb,lcs,<-kS ha,<-kS hb]
end
end K01
namespace PM
open PySem
abbrev Nm:=Str×Nat
structure Ln where
 nm:Nm
 tx:Str
 up:Option Nm
 lo:Option Nm
 deriving DecidableEq
structure Pt where
 nm:Str
 file:Option Str
 iF:List Ln
 jx:List Nm
 other:Option Str
 deriving DecidableEq
noncomputable def mZ:List Pt->List Str->List Pt
 | [],_=>[]
 | p::r,t=>if p.nm∈t then mZ r t else p::mZ r (match p.other with|some o=>o::t|none=>t)
noncomputable def live(ps:List Pt):List Pt:=(mZ ps.reverse []).reverse
def gk(ps:List Pt)(f:Str):List Ln:=(ps.filter λp=>p.file=some f).flatMap (·.iF)
def gone(ps:List Pt):List Nm:=ps.flatMap (·.jx)
noncomputable def iZ(ps:List Pt)(f:Str):List Ln:=(gk (live ps) f).filter λl=>l.nm∉gone (live ps)
theorem wb:∀(ps:List Pt)(t:List Str),(mZ ps t).Sublist ps
 | [],_=>aaC _
 | p::r,t=>by
  unfold mZ
  split
  ·exact(wb r t).cons p
  ·exact(wb r _).cons_cons p
theorem uP(ps:List Pt):(live ps).Sublist ps:=by
 have:=(wb ps.reverse []).reverse
 rwa [List.reverse_reverse] at this
theorem uQ{ps qs:List Pt}(h:ps.Sublist qs)(f:Str):(gk ps f).Sublist (gk qs f):=by
 unfold gk
 have h:=h.filter (λp=>decide (p.file=some f))
 generalize ps.filter _=a at h
 generalize qs.filter _=b at h
 induction h with
 | slnil=>exact aaC _
 | cons x _ ih=>rw[aaF];exact ih.trans (aa1 _ _)
 | cons_cons x _ ih=>rw[aaF,aaF];exact(aaC _).append ih
theorem jB(ps:List Pt)(f:Str):(iZ ps f).Sublist (gk ps f):=
 aa0.trans (uQ (uP ps) f)
def Sa(ls:List Ln)(m n:Nm):Prop:=∃l∈ls,(l.nm=n/\l.up=some m)\/(l.nm=m/\l.lo=some n)
inductive Ah(ls:List Ln):Nm->Nm->Prop
 | one {m n}:Sa ls m n->Ah ls m n
 | Lm {m k n}:Ah ls m k->Sa ls k n->Ah ls m n
theorem Ah.trans{ls:List Ln}{m k n:Nm}(a:Ah ls m k)(b:Ah ls k n):Ah ls m n:=by
 induction b with
 | one h=>exact .Lm a h
 | Lm _ h ih=>exact .Lm ih h
theorem Sa.mono{l1 l2:List Ln}(h:∀l∈l1,l∈l2){m n:Nm}(a:Sa l1 m n):Sa l2 m n:=by
 obtain⟨l,hl,q⟩:=a
 exact⟨l,h l hl,q⟩
theorem Ah.mono{l1 l2:List Ln}(h:∀l∈l1,l∈l2){m n:Nm}(a:Ah l1 m n):Ah l2 m n:=by
 induction a with
 | one x=>exact .one (x.mono h)
 | Lm _ x ih=>exact .Lm ih (x.mono h)
theorem Ah.last{ls:List Ln}{m n:Nm}:Ah ls m n↔Sa ls m n\/∃k,Ah ls m k/\Sa ls k n:=by
 constructor
 ·intro h
  cases h with
  | one x=>exact .inl x
  | Lm a x=>exact .inr ⟨_,a,x⟩
 ·rintro(x|⟨k,a,x⟩)
  ·exact .one x
  ·exact .Lm a x
def Rk(ls:List Ln)(rk:Nm->Nat):Prop:=∀l∈ls,(∀m,l.up=some m->rk m<rk l.nm)/\(∀m,l.lo=some m->rk l.nm<rk m)
def IU(ls:List Ln):Prop:=∃rk,Rk ls rk
theorem Rk.sa{ls:List Ln}{rk:Nm->Nat}(r:Rk ls rk){m n:Nm}(h:Sa ls m n):rk m<rk n:=by
 obtain⟨l,hl,⟨rfl,e⟩|⟨rfl,e⟩⟩:=h
 ·exact(r l hl).1 m e
 ·exact(r l hl).2 n e
theorem Rk.ah{ls:List Ln}{rk:Nm->Nat}(r:Rk ls rk){m n:Nm}(h:Ah ls m n):rk m<rk n:=by
 induction h with
 | one x=>exact r.sa x
 | Lm _ x ih=>exact Nat.lt_trans ih (r.sa x)
def p0(ls:List Ln):Prop:=∀l∈ls,(∀m,l.up=some m->m∈ls.map (·.nm))/\(∀m,l.lo=some m->m∈ls.map (·.nm))
theorem p0.sa{ls:List Ln}(c:p0 ls){m n:Nm}(h:Sa ls m n):m∈ls.map (·.nm)/\n∈ls.map (·.nm):=by
 obtain⟨l,hl,⟨rfl,e⟩|⟨rfl,e⟩⟩:=h
 ·exact⟨(c l hl).1 m e,Vi hl⟩
 ·exact⟨Vi hl,(c l hl).2 n e⟩
theorem p0.ah{ls:List Ln}(c:p0 ls){m n:Nm}(h:Ah ls m n):m∈ls.map (·.nm)/\n∈ls.map (·.nm):=by
 induction h with
 | one x=>exact c.sa x
 | Lm _ x ih=>exact⟨ih.1,(c.sa x).2⟩
section
open Classical
variable(lt:Nm->Nm->Prop)
noncomputable def free(ls:List Ln)(l:Ln):Bool:=decide (∀o∈ls,¬lt o.nm l.nm)
noncomputable def qG:Nat->List Ln->List Ln
 | 0,_=>[]
 | n+1,ls=>match ls.find? (free lt ls) with
  | none=>[]
  | some l=>l::qG n (ls.filter λo=>o.nm≠l.nm)
noncomputable def rowOf(ls:List Ln):List Ln:=qG lt ls.length ls
def ltAt(row:List Ln)(i j:Nat):Prop:=∃a b,row[i]?=some a/\row[j]?=some b/\lt a.nm b.nm
noncomputable def kl(row:List Ln):List (Nat×Nat):=
 (List.range row.length).flatMap λi=>((List.range' (i+1) (row.length-(i+1))).filter λj=>decide (¬ltAt lt row i j)).map λj=>(i,j)
variable{lt}
theorem q8{rk:Nm->Nat}(hr:∀m n,lt m n->rk m<rk n):∀(ls:List Ln),ls≠[]->∃l,ls.find? (free lt ls)=some l:=by
 intro ls hn
 have least:∀(xs:List Ln),xs≠[]->∃l∈xs,∀o∈xs,rk l.nm<=rk o.nm:=by
  intro xs
  induction xs with
  | nil=>intro h;exact absurd rfl h
  | cons x r ih=>
   intro _
   by_cases h:r=[]
   ·subst h;exact⟨x,by simp,λo ho=>by simp at ho;rw[ho];exact Vb _⟩
   ·obtain⟨l,hl,hm⟩:=ih h
    by_cases hx:rk x.nm<=rk l.nm
    ·refine⟨x,by simp,λo ho=>?_⟩
     rcases V9.mp ho with rfl|ho
     ·exact Vb _
     ·exact aao hx (hm o ho)
    ·refine⟨l,YE _ hl,λo ho=>?_⟩
     rcases V9.mp ho with rfl|ho
     ·omega
     ·exact hm o ho
 obtain⟨l,hl,hm⟩:=least ls hn
 have hf:free lt ls l=true:=V7 λo ho j9=>by have:=hr _ _ j9;have:=hm o ho;omega
 cases e:ls.find? (free lt ls) with
 | some x=>exact⟨x,rfl⟩
 | none=>exact absurd hf (by have:=List.find?_eq_none.mp e l hl;simpa using this)
theorem lY{ls:List Ln}(nd:(ls.map (·.nm)).Nodup){l:Ln}(hl:l∈ls):(ls.filter λo=>o.nm≠l.nm).length+1=ls.length:=by
 induction ls with
 | nil=>cases hl
 | cons x r ih=>
  rw[aat,aaY] at nd
  rcases V9.mp hl with rfl|hl
  ·have e:r.filter (λo=>decide (o.nm≠l.nm))=r:=List.filter_eq_self.mpr λo ho=>V7 λz=>nd.1 (z▸Vi ho)
   rw[aaf (by simp),e,W7]
  ·have hx:x.nm≠l.nm:=λz=>nd.1 (z▸Vi hl)
   rw[aad (by simpa using hx),W7,W7,ih nd.2 hl]
theorem mI{ls:List Ln}(nd:(ls.map (·.nm)).Nodup)(p:Ln->Bool):((ls.filter p).map (·.nm)).Nodup:=(aa0.map _).nodup nd
theorem ue{rk:Nm->Nat}(hr:∀m n,lt m n->rk m<rk n):∀(n:Nat)(ls:List Ln),n=ls.length->(ls.map (·.nm)).Nodup->(qG lt n ls).Perm ls
 | 0,ls,e,_=>by
  have:ls=[]:=aas.mp e.symm
  subst this;exact List.Perm.refl _
 | n+1,ls,e,nd=>by
  have hn:ls≠[]:=λz=>by subst z;cases e
  obtain⟨l,hf⟩:=q8 hr ls hn
  have hl:l∈ls:=List.mem_of_find?_eq_some hf
  unfold qG
  rw[hf]
  have hlen:=lY nd hl
  have ih:=ue hr n (ls.filter λo=>o.nm≠l.nm) (by omega) (mI nd _)
  refine(ih.cons l).trans ?_
  clear ih hf hlen e hn
  induction ls with
  | nil=>cases hl
  | cons x r ih=>
   rw[aat,aaY] at nd
   rcases V9.mp hl with rfl|hl
   ·have e:r.filter (λo=>decide (o.nm≠l.nm))=r:=List.filter_eq_self.mpr λo ho=>V7 λz=>nd.1 (z▸Vi ho)
    rw[aaf (by simp),e]
   ·have hx:x.nm≠l.nm:=λz=>nd.1 (z▸Vi hl)
    rw[aad (by simpa using hx)]
    exact(List.Perm.swap _ _ _).trans ((ih nd.2 hl).cons x)
theorem yY{rk:Nm->Nat}(hr:∀m n,lt m n->rk m<rk n){ls:List Ln}(nd:(ls.map (·.nm)).Nodup):(rowOf lt ls).Perm ls:=ue hr _ ls rfl nd
theorem uR{rk:Nm->Nat}(hr:∀m n,lt m n->rk m<rk n):∀(n:Nat)(ls:List Ln),n=ls.length->(ls.map (·.nm)).Nodup->(qG lt n ls).Pairwise λa b=>¬lt b.nm a.nm
 | 0,ls,_,_=>List.Pairwise.nil
 | n+1,ls,e,nd=>by
  have hn:ls≠[]:=λz=>by subst z;cases e
  obtain⟨l,hf⟩:=q8 hr ls hn
  have hl:l∈ls:=List.mem_of_find?_eq_some hf
  have hlen:=lY nd hl
  unfold qG
  rw[hf]
  refine List.Pairwise.cons (λb hb=>?_) (uR hr n _ (by omega) (mI nd _))
  have hb:=(ue hr n (ls.filter λo=>o.nm≠l.nm) (by omega) (mI nd _)).subset hb
  have hp:=List.find?_some hf
  exact aau hp b (aah.mp hb).1
theorem BA{rk:Nm->Nat}(hr:∀m n,lt m n->rk m<rk n){ls:List Ln}(nd:(ls.map (·.nm)).Nodup):(rowOf lt ls).Pairwise λa b=>¬lt b.nm a.nm:=uR hr _ ls rfl nd
end
def Dg(sf:Nm->List Nm)(S:List Nm)(x:Nm):List Nm:=(sf x).filter λy=>y∉S
inductive Run(sf:Nm->List Nm)(B:Nat):Nat->List Nm->List Nm->Prop
 | nil {S}:Run sf B 0 [] S
 | skip {n x st S}:x∈S->(x::st).length<=B->Run sf B n st S->Run sf B (n+1) (x::st) S
 | fin {n x st S}:x∉S->Dg sf S x=[]->(x::st).length<=B->Run sf B n st (S++[x])->Run sf B (n+1) (x::st) S
 | push {n x st S}:x∉S->Dg sf S x≠[]->(x::st).length<=B->Run sf B n ((Dg sf S x).reverse++x::st) S->Run sf B (n+1) (x::st) S
theorem BB{sf:Nm->List Nm}{S:List Nm}{x:Nm}:Dg sf S x=[]↔∀y∈sf x,y∈S:=by
 unfold Dg
 rw[List.filter_eq_nil_iff]
 exact⟨λh y hy=>by simpa using h y hy,λh y hy=>by simpa using h y hy⟩
theorem Lo{sf:Nm->List Nm}{B N:Nat}(cr:Nm->Nat)(hN:∀x,(sf x).length<=N)(hc:∀x y,y∈sf x->cr y<cr x):∀(k:Nat)(x:Nm),cr x<=k->∀(st S:List Nm),st.length+1+N*cr x<=B->
  (∀S',(∀y∈S,y∈S')->x∈S'->∃n,Run sf B n st S')->∃n,Run sf B n (x::st) S:=by
 intro k
 induction k with
 | zero=>
  intro x hx st S hB go
  by_cases hm:x∈S
  ·obtain⟨n,r⟩:=go S (λ_ h=>h) hm
   exact⟨n+1,.skip hm (by rw[W7];omega) r⟩
  ·have e:Dg sf S x=[]:=BB.mpr λy hy=>by have:=hc x y hy;omega
   obtain⟨n,r⟩:=go (S++[x]) (λ_ h=>aan _ h) (by simp)
   exact⟨n+1,.fin hm e (by rw[W7];omega) r⟩
 | succ k ih=>
  intro x hx st S hB go
  have hlen:(x::st).length<=B:=by rw[W7];omega
  by_cases hm:x∈S
  ·obtain⟨n,r⟩:=go S (λ_ h=>h) hm
   exact⟨n+1,.skip hm hlen r⟩
  ·by_cases e:Dg sf S x=[]
   ·obtain⟨n,r⟩:=go (S++[x]) (λ_ h=>aan _ h) (by simp)
    exact⟨n+1,.fin hm e hlen r⟩
   ·
    have many:∀(ms:List Nm)(S0:List Nm),(∀y∈ms,y∈sf x)->ms.length<=N->(∀S',(∀y∈S0,y∈S')->(∀y∈ms,y∈S')->∃n,Run sf B n (x::st) S')->∃n,Run sf B n (ms++x::st) S0:=by
     intro ms
     induction ms with
     | nil=>intro S0 _ _ h;exact h S0 (λ_ z=>z) (λy hy=>by cases hy)
     | cons m r ihm=>
      intro S0 hs hl h
      have hcm:=hc x m (hs m aae)
      rw[W7] at hl
      refine ih m (by omega) (r++x::st) S0 ?_ λS1 h1 RW=>ihm S1 (λy hy=>hs y (YE _ hy)) (by omega) λS2 h2 h3=>h S2 (λy hy=>h2 y (h1 y hy)) λy hy=>?_
      ·rw[Vh,W7]
       have:N*cr m+N<=N*cr x:=by rw[<-Nat.mul_succ];exact Nat.mul_le_mul_left N hcm
       omega
      ·rcases V9.mp hy with z|z
       ·rw[z];exact h2 m RW
       ·exact h3 y z
    have x_:(Dg sf S x).length<=N:=aao (aaM _ _) (hN x)
    have cont:∀S',(∀y∈S,y∈S')->(∀y∈(Dg sf S x).reverse,y∈S')->∃n,Run sf B n (x::st) S':=λS' h1 h2=>by
     by_cases Ky:x∈S'
     ·obtain⟨n,r⟩:=go S' h1 Ky
      exact⟨n+1,.skip Ky hlen r⟩
     ·have e':Dg sf S' x=[]:=BB.mpr λy hy=>by
       by_cases TN:y∈S
       ·exact h1 y TN
       ·exact h2 y (List.mem_reverse.mpr (aah.mpr ⟨hy,by simpa using TN⟩))
      obtain⟨n,r⟩:=go (S'++[x]) (λy hy=>aan _ (h1 y hy)) (by simp)
      exact⟨n+1,.fin Ky e' hlen r⟩
    obtain⟨n,r⟩:=many (Dg sf S x).reverse S (λy hy=>(aah.mp (List.mem_reverse.mp hy)).1) (by rw[abk];exact x_) cont
    exact⟨n+1,.push hm e hlen r⟩
def PN(ls:List Ln)(rk:Nm->Nat)(n:Nm):Nat:=(ls.filter λl=>rk l.nm<rk n).length
theorem N6(ls:List Ln)(rk:Nm->Nat)(n:Nm):PN ls rk n<=ls.length:=aaM _ _
theorem N7{ls:List Ln}{rk:Nm->Nat}{m n:Nm}(hm:m∈ls.map (·.nm))(h:rk m<rk n):PN ls rk m<PN ls rk n:=by
 unfold PN
 have mono:∀{a b:Ln->Bool} {xs:List Ln},(∀x∈xs,a x=true->b x=true)->(xs.filter a).length<=(xs.filter b).length:=by
  intro a b xs Cj
  induction xs with
  | nil=>exact Vb _
  | cons x r ih=>
   have ih:=ih λy hy=>Cj y (YE _ hy)
   by_cases ha:a x=true
   ·rw[aad ha,aad (Cj x aae ha),W7,W7];omega
   ·rw[aaf ha]
    by_cases hb:b x=true
    ·rw[aad hb,W7];omega
    ·rw[aaf hb];exact ih
 obtain⟨l,hl,rfl⟩:=List.mem_map.mp hm
 obtain⟨a,b,rfl⟩:=List.append_of_mem hl
 rw[aaH,aaH,Vh,Vh]
 rw[aaf (by simp),aad (by simpa using h),W7]
 have h1:=mono (a:=λx:Ln=>decide (rk x.nm<rk l.nm)) (b:=λx=>decide (rk x.nm<rk n)) (xs:=a) λx _ hx=>by simp at hx ⊢;omega
 have h2:=mono (a:=λx:Ln=>decide (rk x.nm<rk l.nm)) (b:=λx=>decide (rk x.nm<rk n)) (xs:=b) λx _ hx=>by simp at hx ⊢;omega
 omega
theorem len_sub{xs ys:List Nm}(nd:xs.Nodup)(h:∀x∈xs,x∈ys):xs.length<=ys.length:=by
 induction xs generalizing ys with
 | nil=>exact aaI _
 | cons a r ih=>
  rw[aaY] at nd
  obtain⟨p,q,rfl⟩:=List.append_of_mem (h a aae)
  have:=ih (ys:=p++q) nd.2 λz hz=>by
   have:=h z (YE _ hz)
   rcases YD.mp this with w|w
   ·exact aan _ w
   ·rcases V9.mp w with w|w
    ·exact absurd (w▸hz) nd.1
    ·exact aaG _ w
  rw[Vh] at this
  rw[W7,Vh,W7]
  omega
theorem IV{ls:List Ln}(cl:p0 ls)(tp:IU ls){sf:Nm->List Nm}(hs:∀n,(sf n).Nodup/\∀m,m∈sf n↔Sa ls m n)(x:Nm)(S:List Nm):∃n,Run sf (1+ls.length*ls.length) n [x] S:=by
 obtain⟨rk,hr⟩:=tp
 have V6:∀n,(sf n).length<=ls.length:=λn=>by
  have:=len_sub (ys:=ls.map (·.nm)) (hs n).1 λy hy=>(cl.sa (((hs n).2 y).mp hy)).1
  rw[QU] at this
  exact this
 refine Lo (N:=ls.length) (PN ls rk) V6 (λx y hy=>?_) _ x (Vb _) [] S ?_ λS' _ _=>⟨0,.nil⟩
 ·have h:=((hs x).2 y).mp hy
  exact N7 (cl.sa h).1 (hr.sa h)
 ·have:=Nat.mul_le_mul_left ls.length (N6 ls rk x)
  show 0+1+ls.length*PN ls rk x<=1+ls.length*ls.length
  omega
def Dh(n m:Nat)(qs:List (Nat×Nat)):Prop:=qs.Pairwise (λa b=>a.1<b.1/\a.2<b.2)/\∀q∈qs,q.1<n/\q.2<m
theorem G1{Z:Type}[DecidableEq Z]{old new:List Z}{i j:Nat}{qs:List (Nat×Nat)}(g:K01.Good old new i j qs):Dh old.length new.length qs/\∀q∈qs,i<=q.1/\j<=q.2:=by
 induction g with
 | nil=>exact⟨⟨List.Pairwise.nil,λq hq=>by cases hq⟩,λq hq=>by cases hq⟩
 | @cons i j p q r h1 h2 a e1 e2 h3 t ih=>
  obtain⟨⟨h4,h5⟩,h6⟩:=ih
  refine⟨⟨List.Pairwise.cons (λb hb=>?_) h4,λb hb=>?_⟩,λb hb=>?_⟩
  ·have:=h6 b hb
   exact⟨by show p<b.1;omega,by show q<b.2;omega⟩
  ·rcases V9.mp hb with rfl|hb
   ·exact⟨(List.getElem?_eq_some_iff.mp e1).1,(List.getElem?_eq_some_iff.mp e2).1⟩
   ·exact h5 b hb
  ·rcases V9.mp hb with rfl|hb
   ·exact⟨h1,h2⟩
   ·have:=h6 b hb
    omega
theorem nG{Z:Type}[DecidableEq Z](old new:List Z):Dh old.length new.length (K01.kept old new):=(G1 (K01.wa old new)).1
noncomputable def lO(row:List Ln):List (Nat×Nat)->Nat->Option Nm
 | [],_=>none
 | q::r,s=>if q.2=s then(row[q.1]?).map (·.nm) else lO row r s
def p6(row:List Ln)(qs:List (Nat×Nat)):List Nm:=qs.filterMap λq=>(row[q.1]?).map (·.nm)
theorem BC{row:List Ln}{qs:List (Nat×Nat)}{s:Nat}{m:Nm}(h:lO row qs s=some m):∃q∈qs,q.2=s/\∃l,row[q.1]?=some l/\l.nm=m:=by
 induction qs with
 | nil=>cases h
 | cons q r ih=>
  unfold lO at h
  by_cases e:q.2=s
  ·rw[aag e] at h
   obtain⟨l,hl,e2⟩:=Option.map_eq_some_iff.mp h
   exact⟨q,aae,e,l,hl,e2⟩
  ·rw[aac e] at h
   obtain⟨q',hq,z⟩:=ih h
   exact⟨q',YE _ hq,z⟩
theorem BD{row:List Ln}{m:Nat}:∀{qs:List (Nat×Nat)},Dh row.length m qs->∀s,(lO row qs s).isSome=decide (s∈qs.map (·.2))
 | [],_,s=>rfl
 | q::r,h,s=>by
  have hr:Dh row.length m r:=⟨(List.pairwise_cons.mp h.1).2,λx hx=>h.2 x (YE _ hx)⟩
  unfold lO
  by_cases e:q.2=s
  ·rw[aag e,R7 (h.2 q aae).1,V7 (by rw[aat,e];exact aae)];rfl
  ·rw[aac e,BD hr s,aat]
   by_cases z:s∈r.map (·.2)
   ·rw[V7 z,V7 (YE _ z)]
   ·rw[aai z,aai (λw=>(V9.mp w).elim (λw=>e w.symm) z)]
theorem Lp{row:List Ln}{qs:List (Nat×Nat)}{m:Nat}{rk:Nm->Nat}(h:Dh row.length m qs)(hr:row.Pairwise λa b=>rk a.nm<rk b.nm){s t:Nat}{a b:Nm}(hs:lO row qs s=some a)(ht:lO row qs t=some b)(Fn:s<t):rk a<rk b:=by
 obtain⟨q1,h1,e1,l1,r1,rfl⟩:=BC hs
 obtain⟨q2,h2,e2,l2,r2,rfl⟩:=BC ht
 have j9:q1.1<q2.1:=by
  obtain⟨i,hi,ei⟩:=List.mem_iff_getElem.mp h1
  obtain⟨j,hj,ej⟩:=List.mem_iff_getElem.mp h2
  have hp:=aa2.mp h.1
  rcases Nat.lt_trichotomy i j with z|z|z
  ·have:=hp i j hi hj z;rw[ei,ej] at this;exact this.1
  ·subst z;rw[ei] at ej;subst ej;omega
  ·have:=hp j i hj hi z;rw[ei,ej] at this;omega
 obtain⟨g1,w1⟩:=List.getElem?_eq_some_iff.mp r1
 obtain⟨g2,w2⟩:=List.getElem?_eq_some_iff.mp r2
 have:=aa2.mp hr _ _ g1 g2 j9
 rw[w1,w2] at this
 exact this
def EO(kn:Nat->Option Nm):Nat->Nat->Option Nm
 | 0,_=>none
 | k+1,i=>match kn (i+1) with|some m=>some m|none=>EO kn k (i+1)
noncomputable def p7(p:Str)(kn:Nat->Option Nm):Nat->Nat->Option Nm->List Str->List Ln
 | _,_,_,[]=>[]
 | i,j,u,t::r=>match kn i with
  | some m=>p7 p kn (i+1) j (some m) r
  | none=>⟨(p,j),t,u,EO kn r.length i⟩::p7 p kn (i+1) (j+1) (some (p,j)) r
noncomputable def ko(p:Str)(texts:List Str)(kn:Nat->Option Nm):List Ln:=p7 p kn 0 0 none texts
noncomputable def iU(p f:Str)(row:List Ln)(texts:List Str):Pt:=
 ⟨p,some f,ko p texts (lO row (K01.kept (row.map (·.tx)) texts)),(row.filter λl=>l.nm∉p6 row (K01.kept (row.map (·.tx)) texts)).map (·.nm),none⟩
theorem uS(p:Str)(kn:Nat->Option Nm):∀(r:List Str)(i j:Nat)(u:Option Nm),(p7 p kn i j u r).map (·.nm)=(List.range' j (p7 p kn i j u r).length).map λk=>(p,k)
 | [],_,_,_=>rfl
 | t::r,i,j,u=>by
  unfold p7
  cases h:kn i with
  | some m=>exact uS p kn r (i+1) j (some m)
  | none=>
   simp only [aat,W7,acp]
   rw[uS p kn r (i+1) (j+1) (some (p,j))]
theorem yZ(p:Str)(kn:Nat->Option Nm):∀(r:List Str)(i j:Nat)(u:Option Nm),(p7 p kn i j u r).length=((List.range' i r.length).filter λk=>(kn k).isNone).length
 | [],_,_,_=>rfl
 | t::r,i,j,u=>by
  unfold p7
  rw[W7,acp]
  cases h:kn i with
  | some m=>rw[aaf (by simp[h])];exact yZ p kn r (i+1) j (some m)
  | none=>rw[aad (by simp[h]),W7];simp only [W7];rw[yZ p kn r (i+1) (j+1) (some (p,j))]
theorem BE{kn:Nat->Option Nm}{m:Nm}:∀{k i:Nat},EO kn k i=some m->∃t,i<t/\t<=i+k/\kn t=some m
 | 0,_,h=>by cases h
 | k+1,i,h=>by
  unfold EO at h
  cases e:kn (i+1) with
  | some m'=>
   rw[e] at h
   cases h
   exact⟨i+1,by omega,by omega,e⟩
  | none=>
   rw[e] at h
   obtain⟨t,h1,h2,h3⟩:=BE (k:=k) (i:=i+1) h
   exact⟨t,by omega,by omega,h3⟩
theorem yi{p:Str}{kn:Nat->Option Nm}:∀(r:List Str)(i j:Nat)(u:Option Nm),∀l∈p7 p kn i j u r,∀m,l.up=some m\/l.lo=some m->(u=some m\/∃t,kn t=some m)\/m∈(p7 p kn i j u r).map (·.nm)
 | [],_,_,_,l,hl,_,_=>by cases hl
 | t::r,i,j,u,l,hl,m,hm=>by
  unfold p7 at hl ⊢
  cases h:kn i with
  | some m'=>
   rw[h] at hl
   rcases yi r (i+1) j (some m') l hl m hm with(z|z)|z
   ·exact .inl (.inr ⟨i,by rw[h];exact z⟩)
   ·exact .inl (.inr z)
   ·exact .inr z
  | none=>
   rw[h] at hl
   rcases V9.mp hl with rfl|hl
   ·rcases hm with hm|hm
    ·exact .inl (.inl hm)
    ·obtain⟨t,_,_,e⟩:=BE hm
     exact .inl (.inr ⟨t,e⟩)
   ·rcases yi r (i+1) (j+1) (some (p,j)) l hl m hm with(z|z)|z
    ·cases z
     exact .inr (by rw[aat];exact aae)
    ·exact .inl (.inr z)
    ·exact .inr (YE _ z)
noncomputable def IW(rk:Nm->Nat)(kn:Nat->Option Nm):Nat->Nat
 | 0=>0
 | i+1=>match kn i with|some m=>rk m+1|none=>IW rk kn i
def Vj(kn:Nat->Option Nm)(n j:Nat):Nat:=(((List.range n).filter λk=>(kn k).isNone)[j]?).getD 0
noncomputable def ER(rk:Nm->Nat)(kn:Nat->Option Nm)(p:Str)(n:Nat)(x:Nm):Nat:=if x.1=p then IW rk kn (Vj kn n x.2)*(n+1)+x.2+1 else(rk x+1)*(n+1)
theorem IX{rk:Nm->Nat}{kn:Nat->Option Nm}(hk:∀s t a b,kn s=some a->kn t=some b->s<t->rk a<rk b):∀i t b,kn t=some b->i<=t->IW rk kn i<=rk b
 | 0,_,_,_,_=>aaI _
 | i+1,t,b,h,hi=>by
  unfold IW
  cases e:kn i with
  | some m=>exact hk i t m b e h (by omega)
  | none=>exact IX hk i t b h (by omega)
theorem N8{kn:Nat->Option Nm}{n i:Nat}(hi:i<n)(h:kn i=none):Vj kn n ((List.range i).filter λk=>(kn k).isNone).length=i:=by
 unfold Vj
 have e:List.range n=List.range i++i::List.range' (i+1) (n-(i+1)):=by
  have h1:List.range n=List.range i++(List.range' i (n-i)):=by
   have:=List.range'_append_1 (s:=0) (m:=i) (n:=n-i)
   rw[Nat.zero_add,show i+(n-i)=n by omega] at this
   rw[List.range_eq_range',List.range_eq_range',this]
  rw[h1,show n-i=(n-(i+1))+1 by omega,acp]
 rw[e,aaH,aad (by simp[h]),abb (Vb _),Nat.sub_self]
 rfl
theorem BF{rk:Nm->Nat}{kn:Nat->Option Nm}{p:Str}{n:Nat}(hk:∀s t a b,kn s=some a->kn t=some b->s<t->rk a<rk b)(hp:∀s a,kn s=some a->a.1≠p) :
  ∀(r:List Str)(i j:Nat)(u:Option Nm),i+r.length=n->j=((List.range i).filter λk=>(kn k).isNone).length->(∀m,u=some m->ER rk kn p n m<=IW rk kn i*(n+1)+j)->
   Rk (p7 p kn i j u r) (ER rk kn p n)
 | [],_,_,_,_,_,_=>λl hl=>by cases hl
 | t::r,i,j,u,hn,hj,hu=>by
  rw[W7] at hn
  have MT:i<n:=by omega
  have Mc:j<=i:=by rw[hj];exact aao (aaM _ _) (by rw[abG];exact Vb _)
  have e1:(List.range (i+1)).filter (λk=>(kn k).isNone)=(List.range i).filter (λk=>(kn k).isNone)++if(kn i).isNone then[i] else[]:=by
   rw[List.range_succ,aaH]
   congr 1
   cases h:(kn i).isNone<;>simp[h]
  unfold p7
  cases h:kn i with
  | some m=>
   refine BF hk hp r (i+1) j (some m) (by omega) (by rw[e1,h];simpa using hj) λm' e=>?_
   cases e
   unfold ER
   rw[aac (hp i m h),IW.eq_2,h]
   show(rk m+1)*(n+1)<=(rk m+1)*(n+1)+j
   omega
  | none=>
   have En:ER rk kn p n (p,j)=IW rk kn i*(n+1)+j+1:=by
    unfold ER
    rw[aag rfl,hj,N8 MT h]
   have hb:IW rk kn (i+1)=IW rk kn i:=by rw[IW.eq_2,h]
   intro l hl
   rcases V9.mp hl with rfl|hl
   ·refine⟨λm hm=>?_,λm hm=>?_⟩
    ·have:=hu m hm
     show ER rk kn p n m<ER rk kn p n (p,j)
     omega
    ·obtain⟨t',Gm,Md,e⟩:=BE hm
     show ER rk kn p n (p,j)<ER rk kn p n m
     have hle:=IX hk i t' m e (by omega)
     rw[En]
     unfold ER
     rw[aac (hp t' m e)]
     have h1:IW rk kn i*(n+1)<=rk m*(n+1):=Nat.mul_le_mul_right _ hle
     have h2:(rk m+1)*(n+1)=rk m*(n+1)+(n+1):=Nat.succ_mul _ _
     omega
   ·refine BF hk hp r (i+1) (j+1) (some (p,j)) (by omega) (by rw[e1,h,hj];simp) (λm' e=>?_) l hl
    cases e
    rw[En,hb]
    omega
theorem IY{rk:Nm->Nat}{kn:Nat->Option Nm}{p:Str}(hk:∀s t a b,kn s=some a->kn t=some b->s<t->rk a<rk b)(hp:∀s a,kn s=some a->a.1≠p)(texts:List Str):Rk (ko p texts kn) (ER rk kn p texts.length):=
 BF hk hp texts 0 0 none (by omega) rfl λm e=>by cases e
theorem IZ{rk:Nm->Nat}{kn:Nat->Option Nm}{p:Str}{n:Nat}{ls:List Ln}(r:Rk ls rk)(h:∀l∈ls,l.nm.1≠p/\∀m,l.up=some m\/l.lo=some m->m.1≠p):Rk ls (ER rk kn p n):=by
 intro l hl
 obtain⟨h1,h2⟩:=h l hl
 have e:∀x:Nm,x.1≠p->ER rk kn p n x=(rk x+1)*(n+1):=λx hx=>by unfold ER;rw[aac hx]
 refine⟨λm hm=>?_,λm hm=>?_⟩
 ·rw[e _ h1,e _ (h2 m (.inl hm))]
  exact Nat.mul_lt_mul_of_pos_right (Nat.succ_lt_succ ((r l hl).1 m hm)) (Nat.succ_pos _)
 ·rw[e _ h1,e _ (h2 m (.inr hm))]
  exact Nat.mul_lt_mul_of_pos_right (Nat.succ_lt_succ ((r l hl).2 m hm)) (Nat.succ_pos _)
theorem Di{xs ys:List Nat}(nd:xs.Nodup)(h:∀x∈xs,x∈ys):xs.length<=ys.length:=by
 have:=len_sub (xs:=xs.map λk=>((Str.empty,k):Nm)) (ys:=ys.map λk=>(Str.empty,k)) (ab0.mpr (nd.imp λh z=>h (aaQ Prod.snd z))) λx hx=>by
  obtain⟨k,hk,rfl⟩:=List.mem_map.mp hx
  exact Vi (h k hk)
 rwa [QU,QU] at this
theorem y0{Z:Type}(p:Z->Bool):∀xs:List Z,(xs.filter p).length+(xs.filter λx=>!p x).length=xs.length
 | []=>rfl
 | x::r=>by
  have:=y0 p r
  cases h:p x<;>simp[h]<;>omega
theorem Lq{row:List Ln}{texts:List Str}{qs:List (Nat×Nat)}(h:Dh row.length texts.length qs)(p:Str):(ko p texts (lO row qs)).length+qs.length=texts.length:=by
 unfold ko
 rw[yZ,<-List.range_eq_range']
 have h2:=y0 (λk=>(lO row qs k).isNone) (List.range texts.length)
 rw[abG] at h2
 have h3:((List.range texts.length).filter λx=>!(lO row qs x).isNone).length=qs.length:=by
  have nd:(qs.map (·.2)).Nodup:=ab0.mpr (h.1.imp λz e=>by omega)
  refine Nat.le_antisymm ?_ ?_
  ·have:=Di (xs:=(List.range texts.length).filter λx=>!(lO row qs x).isNone) (ys:=qs.map (·.2)) (List.nodup_range.sublist aa0) λx hx=>by
    have h4:=(aah.mp hx).2
    have h5:(lO row qs x).isSome=true:=by cases e:lO row qs x<;>simp[e] at h4 ⊢
    rw[BD h] at h5
    exact aau h5
   rwa [QU] at this
  ·have:=Di (xs:=qs.map (·.2)) (ys:=(List.range texts.length).filter λx=>!(lO row qs x).isNone) nd λx hx=>by
    refine aah.mpr ⟨List.mem_range.mpr ?_,?_⟩
    ·obtain⟨q,hq,rfl⟩:=List.mem_map.mp hx
     exact(h.2 q hq).2
    ·have h5:=BD h x
     rw[V7 hx] at h5
     cases e:lO row qs x<;>simp[e] at h5 ⊢
   rwa [QU] at this
 omega
structure Dk where
 made:List Pt
 iV:Str->List Str
 stores:List Str
 held:Str->List Str
def named(p:Pt):List Nm:=p.jx++p.iF.flatMap λl=>l.up.toList++l.lo.toList
def iz(p:Pt):List Str:=((named p).filter λn=>n.1≠p.nm).map (·.1)++p.other.toList
def p8(nd:Str->List Str)(p:Pt):List Str:=(iz p).flatMap λy=>y::nd y
namespace Dk
def names(D:Dk):List Str:=D.made.map (·.nm)
noncomputable def keep(D:Dk)(s:Str)(p:Pt):Dk:=⟨D.made++[p],λx=>if x=p.nm then p8 D.iV p else D.iV x,D.stores,λt=>if t=s then D.held s++[p.nm] else D.held t⟩
noncomputable def begin(D:Dk)(s:Str):Dk:=⟨D.made,D.iV,D.stores++[s],λt=>if t=s then[] else D.held t⟩
def kc(D:Dk)(s:Str):List Pt:=D.made.filter λp=>p.nm∈D.held s
def has(D:Dk)(s:Str):List Str:=D.names.filter λx=>x∈D.held s
def QZ(D:Dk)(x:Str):List Str:=D.names.filter λy=>y∈D.iV x
def G2(D:Dk)(s x:Str):List Str:=(D.QZ x++[x]).filter λy=>y∉D.held s
def take(D:Dk)(s x:Str):Dk:=⟨D.made,D.iV,D.stores,λt=>if t=s then D.held s++D.G2 s x else D.held t⟩
def drop(D:Dk)(s x:Str):Dk:=⟨D.made,D.iV,D.stores,λt=>if t=s then(D.held s).filter (λy=>y≠x) else D.held t⟩
noncomputable def row(D:Dk)(s f:Str):List Ln:=rowOf (Ah (gk (D.kc s) f)) (iZ (D.kc s) f)
noncomputable def sV(D:Dk)(s f:Str):List (Nat×Nat):=kl (Ah (gk (D.kc s) f)) (D.row s f)
theorem FT(D:Dk)(s:Str):D.has s=(D.kc s).map (·.nm):=by
 unfold has kc names
 rw[List.filter_map];rfl
end Dk
structure Inv(D:Dk):Prop where
 nd:D.names.Nodup
 AY:∀p∈D.made,p.iF.map (·.nm)=(List.range p.iF.length).map λj=>(p.nm,j)
 refs:∀p∈D.made,∀l∈p.iF,∀m,l.up=some m\/l.lo=some m->∃q∈D.made,q.file=p.file/\m∈q.iF.map (·.nm)/\(q.nm=p.nm\/q.nm∈D.iV p.nm)
 rank:∃rk,∀p∈D.made,Rk p.iF rk
 before:∀i p,D.made[i]?=some p->∀x∈D.iV p.nm,x∈(D.made.take i).map (·.nm)
 trans:∀x∈D.names,∀y∈D.iV x,∀z∈D.iV y,z∈D.iV x
 stN:D.stores.Nodup
 ox:∀s∈D.stores,∀x∈D.held s,x∈D.names/\∀y∈D.iV x,y∈D.held s
 xj:∀s∈D.stores,(D.held s).Nodup
 I_:∀p∈D.made,∀n∈p.jx,n.1≠p.nm
 need:∀p∈D.made,∀y,y∈D.iV p.nm↔∃z∈iz p,y=z\/y∈D.iV z
theorem mJ{p:Pt}(h:p.iF.map (·.nm)=(List.range p.iF.length).map λj=>(p.nm,j)){m:Nm}(hm:m∈p.iF.map (·.nm)):m.1=p.nm:=by
 rw[h] at hm
 obtain⟨j,_,rfl⟩:=List.mem_map.mp hm
 rfl
theorem Lr{ps:List Pt}(nd:(ps.map (·.nm)).Nodup){p q:Pt}(hp:p∈ps)(hq:q∈ps)(e:p.nm=q.nm):p=q:=by
 induction ps with
 | nil=>cases hp
 | cons x r ih=>
  rw[aat,aaY] at nd
  rcases V9.mp hp with h1|h1
  ·rcases V9.mp hq with h2|h2
   ·rw[h1,h2]
   ·exact absurd (by rw[<-h1,e];exact Vi h2) nd.1
  ·rcases V9.mp hq with h2|h2
   ·exact absurd (by rw[<-h2,<-e];exact Vi h1) nd.1
   ·exact ih nd.2 h1 h2
theorem ES{ps:List Pt}(nd:(ps.map (·.nm)).Nodup)(h:∀p∈ps,p.iF.map (·.nm)=(List.range p.iF.length).map λj=>(p.nm,j)):((ps.flatMap (·.iF)).map (·.nm)).Nodup:=by
 induction ps with
 | nil=>exact abh
 | cons x r ih=>
  rw[aat,aaY] at nd
  rw[aaF,aar,aa5]
  refine⟨?_,ih nd.2 λp hp=>h p (YE _ hp),λa ha b hb e=>?_⟩
  ·rw[h x aae]
   exact ab0.mpr (List.nodup_range.imp λz e=>z (aaQ Prod.snd e))
  ·have e1:=mJ (h x aae) ha
   obtain⟨l,hl,rfl⟩:=List.mem_map.mp hb
   obtain⟨q,hq,hlq⟩:=aa4.mp hl
   have e2:=mJ (h q (YE _ hq)) (Vi hlq)
   exact nd.1 (by rw[<-e1,e,e2];exact Vi hq)
theorem jC{ps:List Pt}{f:Str}{l:Ln}:l∈gk ps f↔∃p∈ps,p.file=some f/\l∈p.iF:=by
 unfold gk
 rw[aa4]
 constructor
 ·rintro⟨p,hp,hl⟩
  obtain⟨h1,h2⟩:=aah.mp hp
  exact⟨p,h1,aau h2,hl⟩
 ·rintro⟨p,h1,h2,hl⟩
  exact⟨p,aah.mpr ⟨h1,V7 h2⟩,hl⟩
theorem uT(ps:List Pt)(f:Str):(gk ps f).Sublist (ps.flatMap (·.iF)):=by
 unfold gk
 have h:=aa0 (p:=λp:Pt=>decide (p.file=some f)) (l:=ps)
 generalize ps.filter _=qs at h
 induction h with
 | slnil=>exact aaC _
 | cons x _ ih=>rw[aaF];exact ih.trans (aa1 _ _)
 | cons_cons x _ ih=>rw[aaF,aaF];exact(aaC _).append ih
namespace Inv
variable{D:Dk}
theorem lC{s:Str}{p:Pt}:p∈D.kc s↔p∈D.made/\p.nm∈D.held s:=by
 unfold Dk.kc
 rw[aah,abe]
theorem p9(s:Str):(D.kc s).Sublist D.made:=aa0
theorem nodup(I:Inv D)(s f:Str):((gk (D.kc s) f).map (·.nm)).Nodup:=
 ((uT _ f).map _).nodup (ES (((p9 s).map _).nodup I.nd) λp hp=>I.AY p (p9 s |>.subset hp))
theorem ET(I:Inv D)(s f:Str):((iZ (D.kc s) f).map (·.nm)).Nodup:=((jB _ f).map _).nodup (I.nodup s f)
theorem closed(I:Inv D){s:Str}(hs:s∈D.stores)(f:Str):p0 (gk (D.kc s) f):=by
 have key:∀l∈gk (D.kc s) f,∀m,l.up=some m\/l.lo=some m->m∈(gk (D.kc s) f).map (·.nm):=λl hl m hm=>by
  obtain⟨p,hp,hf,hl⟩:=jC.mp hl
  obtain⟨hp,hh⟩:=lC.mp hp
  obtain⟨q,hq,e,V8,hn⟩:=I.refs p hp l hl m hm
  obtain⟨l',Cm,rfl⟩:=List.mem_map.mp V8
  refine Vi (jC.mpr ⟨q,lC.mpr ⟨hq,?_⟩,by rw[e];exact hf,Cm⟩)
  rcases hn with hn|hn
  ·rw[hn];exact hh
  ·exact(I.ox s hs _ hh).2 _ hn
 exact λl hl=>⟨λm hm=>key l hl m (.inl hm),λm hm=>key l hl m (.inr hm)⟩
theorem N9(I:Inv D)(s f:Str):IU (gk (D.kc s) f):=by
 obtain⟨rk,h⟩:=I.rank
 refine⟨rk,λl hl=>?_⟩
 obtain⟨p,hp,_,hl⟩:=jC.mp hl
 exact h p (lC.mp hp).1 l hl
theorem lD(I:Inv D)(s f:Str):(D.row s f).Perm (iZ (D.kc s) f):=by
 obtain⟨rk,r⟩:=I.N9 s f
 exact yY (rk:=rk) (λm n z=>r.ah z) (I.ET s f)
theorem sC(I:Inv D){s f:Str}{l:Ln}(h:l∈D.row s f):∃p∈D.kc s,p.file=some f/\l∈p.iF:=
 jC.mp ((jB _ f).subset ((I.lD s f).subset h))
theorem BG(I:Inv D)(s f:Str):(D.row s f).length<=(D.made.flatMap (·.iF)).length:=by
 rw[(I.lD s f).length_eq]
 refine aao (jB _ f).length_le (aao (uT _ f).length_le ?_)
 have h:=p9 (D:=D) s
 generalize D.kc s=qs at h
 generalize D.made=ms at h
 clear I
 induction h with
 | slnil=>exact Vb _
 | cons x _ ih=>rw[aaF,Vh];omega
 | cons_cons x _ ih=>rw[aaF,aaF,Vh,Vh];omega
open Classical in
theorem chain{lt:Nm->Nm->Prop}{row:List Ln}(hq:kl lt row=[]):row.Pairwise λa b=>lt a.nm b.nm:=by
 rw[aa2]
 intro i j hi hj T3
 by_cases c:ltAt lt row i j
 ·obtain⟨a,b,ha,hb,z⟩:=c
  rw[R7 hi] at ha
  rw[R7 hj] at hb
  cases ha;cases hb
  exact z
 ·exfalso
  have:(i,j)∈kl lt row:=by
   unfold kl
   refine aa4.mpr ⟨i,List.mem_range.mpr hi,List.mem_map.mpr ⟨j,aah.mpr ⟨List.mem_range'.mpr ⟨j-(i+1),by omega,by omega⟩,V7 c⟩,rfl⟩⟩
  rw[hq] at this
  cases this
theorem keep(I:Inv D){s:Str}{p:Pt}(hs:s∈D.stores)(fresh:p.nm∉D.names)(AY:p.iF.map (·.nm)=(List.range p.iF.length).map λj=>(p.nm,j))
  (refs:∀l∈p.iF,∀m,l.up=some m\/l.lo=some m->m∈p.iF.map (·.nm)\/∃q∈D.kc s,q.file=p.file/\m∈q.iF.map (·.nm))
  (jx:∀m∈p.jx,∃q∈D.kc s,m∈q.iF.map (·.nm)) (other:∀o,p.other=some o->o∈D.held s)
  (rank:∃rk,(∀q∈D.made,Rk q.iF rk)/\Rk p.iF rk):Inv (D.keep s p):=by
 have qt:∀x∈D.names,x≠p.nm:=λx hx e=>fresh (e▸hx)
 have O2:∀q∈D.made,q.nm∈D.names:=λq hq=>Vi hq
 have J3:∀x,x≠p.nm->(D.keep s p).iV x=D.iV x:=λx hx=>aac hx
 have R_:(D.keep s p).iV p.nm=p8 D.iV p:=aag rfl
 have T4:∀x∈iz p,x∈D.held s:=λx hx=>by
  unfold iz at hx
  rcases YD.mp hx with hx|hx
  ·obtain⟨m,hm,rfl⟩:=List.mem_map.mp hx
   obtain⟨hm,hn⟩:=aah.mp hm
   have hn:m.1≠p.nm:=aau hn
   have fin:(∃q∈D.kc s,m∈q.iF.map (·.nm))->m.1∈D.held s:=λ⟨q,hq,V8⟩=>by
    obtain⟨h1,h2⟩:=lC.mp hq
    rw[mJ (I.AY q h1) V8];exact h2
   rcases YD.mp hm with hm|hm
   ·exact fin (jx m hm)
   ·obtain⟨l,hl,hm⟩:=aa4.mp hm
    have Ky:l.up=some m\/l.lo=some m:=by
     rcases YD.mp hm with hm|hm
     ·exact .inl (by simpa using hm)
     ·exact .inr (by simpa using hm)
    rcases refs l hl m Ky with z|⟨q,hq,_,z⟩
    ·exact absurd (mJ AY z) hn
    ·exact fin ⟨q,hq,z⟩
  ·exact other x (by simpa using hx)
 have nh:∀x∈p8 D.iV p,x∈D.held s:=λx hx=>by
  obtain⟨y,hy,hx⟩:=aa4.mp hx
  rcases V9.mp hx with rfl|hx
  ·exact T4 _ hy
  ·exact(I.ox s hs y (T4 y hy)).2 x hx
 have nn:∀x∈p8 D.iV p,x∈D.names:=λx hx=>(I.ox s hs x (nh x hx)).1
 have MZ:∀x∈D.names,∀y∈D.iV x,y∈D.names:=λx hx y hy=>by
  obtain⟨q,hq,rfl⟩:=List.mem_map.mp hx
  obtain⟨i,hi⟩:=aaT.mp hq
  have:=I.before i q hi y hy
  exact(acj i D.made).map _ |>.subset this
 refine⟨?_,λq hq=>?_,λq hq l hl m hm=>?_,?_,λi q hq x hx=>?_,λx hx y hy z hz=>?_,I.stN,λt ht x hx=>?_,λt ht=>?_,λq hq n hn=>?_,λq hq y=>?_⟩
 ·show((D.made++[p]).map (·.nm)).Nodup
  rw[aar,aa5]
  exact⟨I.nd,by simp,λa ha b hb e=>fresh (by simp at hb;rw[<-hb,<-e];exact ha)⟩
 ·rcases YD.mp hq with hq|hq
  ·exact I.AY q hq
  ·rw[Sd.mp hq];exact AY
 ·rcases YD.mp hq with hq|hq
  ·obtain⟨q',h1,h2,h3,h4⟩:=I.refs q hq l hl m hm
   refine⟨q',aan _ h1,h2,h3,h4.imp id λz=>?_⟩
   rw[J3 _ (qt _ (O2 q hq))];exact z
  ·rw[Sd.mp hq] at hl ⊢
   rcases refs l hl m hm with z|⟨q',h1,h2,h3⟩
   ·exact⟨p,by show p∈D.made++[p];simp,rfl,z,.inl rfl⟩
   ·obtain⟨h4,h5⟩:=lC.mp h1
    refine⟨q',aan _ h4,h2,h3,.inr ?_⟩
    rw[R_]
    have e:=mJ (I.AY q' h4) h3
    refine aa4.mpr ⟨q'.nm,?_,aae⟩
    unfold iz
    refine aan _ (List.mem_map.mpr ⟨m,aah.mpr ⟨?_,V7 ?_⟩,e⟩)
    ·unfold named
     refine aaG _ (aa4.mpr ⟨l,hl,?_⟩)
     rcases hm with hm|hm
     ·exact aan _ (by rw[hm];simp)
     ·exact aaG _ (by rw[hm];simp)
    ·rw[e];exact qt _ (O2 q' h4)
 ·obtain⟨rk,h1,h2⟩:=rank
  refine⟨rk,λq hq=>?_⟩
  rcases YD.mp hq with hq|hq
  ·exact h1 q hq
  ·rw[Sd.mp hq];exact h2
 ·show x∈((D.made++[p]).take i).map (·.nm)
  have hq:(D.made++[p])[i]?=some q:=hq
  by_cases hi:i<D.made.length
  ·rw[abS hi] at hq
   rw[List.take_append_of_le_length (by omega)]
   rw[J3 _ (qt _ (O2 q (Xj hq)))] at hx
   exact I.before i q hq x hx
  ·have hl:=(List.getElem?_eq_some_iff.mp hq).1
   rw[Vh] at hl
   have hi:i=D.made.length:=by have:[p].length=1:=rfl;omega
   subst hi
   rw[abb (Vb _),Nat.sub_self] at hq
   cases hq
   rw[List.take_append_of_le_length (Vb _),aav]
   rw[R_] at hx
   exact nn x hx
 ·have hx:x∈(D.made++[p]).map (·.nm):=hx
  rw[aar] at hx
  rcases YD.mp hx with hx|hx
  ·rw[J3 _ (qt x hx)] at hy ⊢
   rw[J3 _ (qt y (MZ x hx y hy))] at hz
   exact I.trans x hx y hy z hz
  ·have hx:x=p.nm:=by simpa using hx
   rw[hx,R_] at hy ⊢
   rw[J3 _ (qt y (nn y hy))] at hz
   obtain⟨w,hw,hy⟩:=aa4.mp hy
   refine aa4.mpr ⟨w,hw,YE _ ?_⟩
   rcases V9.mp hy with rfl|hy
   ·exact hz
   ·exact I.trans w (I.ox s hs w (T4 w hw)).1 y hy z hz
 ·have old:∀u∈D.stores,∀x∈D.held u,x∈(D.keep s p).names/\∀y∈(D.keep s p).iV x,y∈D.held u:=λu hu x hx=>by
   obtain⟨h1,h2⟩:=I.ox u hu x hx
   refine⟨?_,λy hy=>?_⟩
   ·show x∈(D.made++[p]).map (·.nm)
    rw[aar];exact aan _ h1
   ·rw[J3 _ (qt x h1)] at hy
    exact h2 y hy
  have hx:x∈(if t=s then D.held s++[p.nm] else D.held t):=hx
  show x∈(D.keep s p).names/\∀y∈(D.keep s p).iV x,y∈(if t=s then D.held s++[p.nm] else D.held t)
  by_cases e:t=s
  ·rw[aag e] at hx ⊢
   rcases YD.mp hx with hx|hx
   ·obtain⟨h1,h2⟩:=old s hs x hx
    exact⟨h1,λy hy=>aan _ (h2 y hy)⟩
   ·have hx:x=p.nm:=by simpa using hx
    rw[hx]
    refine⟨?_,λy hy=>?_⟩
    ·show p.nm∈(D.made++[p]).map (·.nm)
     simp
    ·rw[R_] at hy
     exact aan _ (nh y hy)
  ·rw[aac e] at hx ⊢
   exact old t ht x hx
 ·show(if t=s then D.held s++[p.nm] else D.held t).Nodup
  by_cases e:t=s
  ·rw[aag e,aa5]
   exact⟨I.xj s hs,by simp,λa ha b hb z=>fresh (by simp at hb;rw[<-hb,<-z];exact(I.ox s hs a ha).1)⟩
  ·rw[aac e];exact I.xj t ht
 ·rcases YD.mp hq with hq|hq
  ·exact I.I_ q hq n hn
  ·rw[Sd.mp hq] at hn ⊢
   obtain⟨q',h1,h2⟩:=jx n hn
   rw[mJ (I.AY q' (lC.mp h1).1) h2]
   exact qt _ (O2 q' (lC.mp h1).1)
 ·rcases YD.mp hq with hq|hq
  ·rw[J3 _ (qt _ (O2 q hq)),I.need q hq y]
   have e:∀z∈iz q,(D.keep s p).iV z=D.iV z:=λz hz=>J3 z (qt z (MZ q.nm (O2 q hq) z ((I.need q hq z).mpr ⟨z,hz,.inl rfl⟩)))
   exact⟨λ⟨z,h1,h2⟩=>⟨z,h1,by rw[e z h1];exact h2⟩,λ⟨z,h1,h2⟩=>⟨z,h1,by rw[e z h1] at h2;exact h2⟩⟩
  ·rw[Sd.mp hq,R_]
   have e:∀z∈iz p,(D.keep s p).iV z=D.iV z:=λz hz=>J3 z (qt z (I.ox s hs z (T4 z hz)).1)
   unfold p8
   rw[aa4]
   exact⟨λ⟨z,h1,h2⟩=>⟨z,h1,by rw[e z h1];exact V9.mp h2⟩,λ⟨z,h1,h2⟩=>⟨z,h1,by rw[e z h1] at h2;exact V9.mpr h2⟩⟩
theorem record(I:Inv D){s f x:Str}(hs:s∈D.stores)(fresh:x∉D.names)(hq:D.sV s f=[])(texts:List Str):Inv (D.keep s (iU x f (D.row s f) texts)):=by
 obtain⟨rk,En⟩:=I.rank
 have rise:=nG ((D.row s f).map (·.tx)) texts
 rw[QU] at rise
 have Sb:∀t m,lO (D.row s f) (K01.kept ((D.row s f).map (·.tx)) texts) t=some m->∃q∈D.kc s,q.file=some f/\m∈q.iF.map (·.nm):=λt m h=>by
  obtain⟨q,_,_,l,hl,rfl⟩:=BC h
  obtain⟨p,h1,h2,h3⟩:=I.sC (Xj hl)
  exact⟨p,h1,h2,Vi h3⟩
 have own:∀q∈D.made,∀m∈q.iF.map (·.nm),m.1≠x:=λq hq m hm e=>fresh (by rw[<-e,mJ (I.AY q hq) hm];exact Vi hq)
 have ch:(D.row s f).Pairwise λa b=>rk a.nm<rk b.nm:=by
  have tr:Rk (gk (D.kc s) f) rk:=λl hl=>by
   obtain⟨p,hp,_,hl⟩:=jC.mp hl
   exact En p (lC.mp hp).1 l hl
  exact(chain hq).imp λz=>tr.ah z
 refine I.keep hs fresh ?_ (λl hl m hm=>?_) (λm hm=>?_) (λo ho=>by cases ho) ⟨ER rk (lO (D.row s f) (K01.kept ((D.row s f).map (·.tx)) texts)) x texts.length,λq hq=>?_,?_⟩
 ·show(ko x texts _).map (·.nm)=(List.range (ko x texts _).length).map λj=>(x,j)
  unfold ko
  rw[uS,<-List.range_eq_range']
 ·rcases yi texts 0 0 none l hl m hm with(z|⟨t,z⟩)|z
  ·cases z
  ·exact .inr (Sb t m z)
  ·exact .inl z
 ·obtain⟨l,hl,rfl⟩:=List.mem_map.mp hm
  obtain⟨p,h1,_,h3⟩:=I.sC (aah.mp hl).1
  exact⟨p,h1,Vi h3⟩
 ·refine IZ (En q hq) λl hl=>⟨own q hq _ (Vi hl),λm hm=>?_⟩
  obtain⟨q',h1,_,h3,_⟩:=I.refs q hq l hl m hm
  exact own q' h1 m h3
 ·refine IY (λa b c d h1 h2 h3=>Lp rise ch h1 h2 h3) (λt m h=>?_) texts
  obtain⟨q,h1,_,h3⟩:=Sb t m h
  exact own q (lC.mp h1).1 m h3
theorem cut(I:Inv D){s f x:Str}(hs:s∈D.stores)(fresh:x∉D.names){ms:List Nm}(hm:∀m∈ms,m∈(D.row s f).map (·.nm)):Inv (D.keep s ⟨x,some f,[],ms,none⟩):=by
 refine I.keep hs fresh rfl (λl hl=>by cases hl) (λm h=>?_) (λo ho=>by cases ho) ?_
 ·obtain⟨l,hl,rfl⟩:=List.mem_map.mp (hm m h)
  obtain⟨p,h1,_,h3⟩:=I.sC hl
  exact⟨p,h1,Vi h3⟩
 ·obtain⟨rk,h⟩:=I.rank
  exact⟨rk,h,λl hl=>by cases hl⟩
theorem back(I:Inv D){s x o:Str}(hs:s∈D.stores)(fresh:x∉D.names)(ho:o∈D.held s):Inv (D.keep s ⟨x,none,[],[],some o⟩):=by
 refine I.keep hs fresh rfl (λl hl=>by cases hl) (λm h=>by cases h) (λo' h=>by cases h;exact ho) ?_
 obtain⟨rk,h⟩:=I.rank
 exact⟨rk,h,λl hl=>by cases hl⟩
theorem G3(I:Inv D){x:Str}(hx:x∈D.names):x∉D.iV x:=λh=>by
 obtain⟨q,hq,rfl⟩:=List.mem_map.mp hx
 obtain⟨i,hi⟩:=aaT.mp hq
 have h1:=I.before i q hi _ h
 rw[List.map_take] at h1
 obtain⟨j,hj⟩:=aaT.mp h1
 have Mc:j<i:=by have:=(List.getElem?_eq_some_iff.mp hj).1;rw[aaA] at this;omega
 rw[List.getElem?_take,aag Mc] at hj
 have e3:(D.made.map (·.nm))[i]?=some q.nm:=by rw[YI,hi];rfl
 have:=(List.getElem?_inj (List.getElem?_eq_some_iff.mp hj).1 I.nd).mp (hj.trans e3.symm)
 omega
theorem yj(I:Inv D){x y:Str}(hx:x∈D.names)(hy:y∈D.iV x):y∈D.names:=by
 obtain⟨q,hq,rfl⟩:=List.mem_map.mp hx
 obtain⟨i,hi⟩:=aaT.mp hq
 exact(acj i D.made).map _ |>.subset (I.before i q hi y hy)
theorem take(I:Inv D){s x:Str}(hs:s∈D.stores)(hx:x∈D.names):Inv (D.take s x):=by
 have cm:∀y∈D.G2 s x,(y=x\/y∈D.iV x)/\y∉D.held s:=λy hy=>by
  obtain⟨h1,h2⟩:=aah.mp hy
  refine⟨?_,aau h2⟩
  rcases YD.mp h1 with h|h
  ·exact .inr (aau (aah.mp h).2)
  ·exact .inl (by simpa using h)
 have Y8:∀y,y=x\/y∈D.iV x->y∈D.held s++D.G2 s x:=λy hy=>by
  by_cases h:y∈D.held s
  ·exact aan _ h
  ·refine aaG _ (aah.mpr ⟨?_,V7 h⟩)
   rcases hy with rfl|hy
   ·simp
   ·exact aan _ (aah.mpr ⟨I.yj hx hy,V7 hy⟩)
 refine⟨I.nd,I.AY,I.refs,I.rank,I.before,I.trans,I.stN,λt ht z hz=>?_,λt ht=>?_,I.I_,I.need⟩
 ·have hz:z∈(if t=s then D.held s++D.G2 s x else D.held t):=hz
  show z∈D.names/\∀y∈D.iV z,y∈(if t=s then D.held s++D.G2 s x else D.held t)
  by_cases e:t=s
  ·rw[aag e] at hz ⊢
   rcases YD.mp hz with hz|hz
   ·obtain⟨h1,h2⟩:=I.ox s hs z hz
    exact⟨h1,λy hy=>aan _ (h2 y hy)⟩
   ·obtain⟨h1,_⟩:=cm z hz
    rcases h1 with rfl|h1
    ·exact⟨hx,λy hy=>Y8 y (.inr hy)⟩
    ·exact⟨I.yj hx h1,λy hy=>Y8 y (.inr (I.trans x hx z h1 y hy))⟩
  ·rw[aac e] at hz ⊢
   exact I.ox t ht z hz
 ·show(if t=s then D.held s++D.G2 s x else D.held t).Nodup
  by_cases e:t=s
  ·rw[aag e,aa5]
   refine⟨I.xj s hs,?_,λa ha b hb z=>(cm b hb).2 (z▸ha)⟩
   refine List.Nodup.sublist aa0 ?_
   rw[aa5]
   refine⟨List.Nodup.sublist aa0 I.nd,by simp,λa ha b hb z=>?_⟩
   rw[Sd.mp hb] at z
   subst z
   exact I.G3 hx (aau (aah.mp ha).2)
  ·rw[aac e];exact I.xj t ht
theorem drop(I:Inv D){s x:Str}(hs:s∈D.stores)(hx:∀z∈D.held s,x∉D.iV z):Inv (D.drop s x):=by
 refine⟨I.nd,I.AY,I.refs,I.rank,I.before,I.trans,I.stN,λt ht z hz=>?_,λt ht=>?_,I.I_,I.need⟩
 ·have hz:z∈(if t=s then(D.held s).filter (λy=>y≠x) else D.held t):=hz
  show z∈D.names/\∀y∈D.iV z,y∈(if t=s then(D.held s).filter (λy=>y≠x) else D.held t)
  by_cases e:t=s
  ·rw[aag e] at hz ⊢
   have hz:=(aah.mp hz).1
   obtain⟨h1,h2⟩:=I.ox s hs z hz
   exact⟨h1,λy hy=>aah.mpr ⟨h2 y hy,V7 λe=>hx z hz (e▸hy)⟩⟩
  ·rw[aac e] at hz ⊢
   exact I.ox t ht z hz
 ·show(if t=s then(D.held s).filter (λy=>y≠x) else D.held t).Nodup
  by_cases e:t=s
  ·rw[aag e];exact List.Nodup.sublist aa0 (I.xj s hs)
  ·rw[aac e];exact I.xj t ht
theorem begin(I:Inv D){s:Str}(hs:s∉D.stores):Inv (D.begin s):=by
 refine⟨I.nd,I.AY,I.refs,I.rank,I.before,I.trans,?_,λt ht z hz=>?_,λt ht=>?_,I.I_,I.need⟩
 ·show(D.stores++[s]).Nodup
  rw[aa5]
  exact⟨I.stN,by simp,λa ha b hb e=>hs (by rw[<-Sd.mp hb,<-e];exact ha)⟩
 ·have hz:z∈(if t=s then[] else D.held t):=hz
  show z∈D.names/\∀y∈D.iV z,y∈(if t=s then[] else D.held t)
  by_cases e:t=s
  ·rw[aag e] at hz;cases hz
  ·rw[aac e] at hz ⊢
   rcases YD.mp ht with ht|ht
   ·exact I.ox t ht z hz
   ·exact absurd (Sd.mp ht) e
 ·show(if t=s then[] else D.held t).Nodup
  by_cases e:t=s
  ·rw[aag e];exact abh
  ·rw[aac e]
   rcases YD.mp ht with ht|ht
   ·exact I.xj t ht
   ·exact absurd (Sd.mp ht) e
end Inv
end PM
namespace PK
open PySem L2
set_option genInjectivity false
set_option genSizeOf false
set_option genSizeOfSpec false
noncomputable def top(i:Nat):Stmt:=PySem.Challenge.pw_patchkin_k03_recorded.main.body.getD i (.Pass ⟨0,0,0,0⟩)
noncomputable section
noncomputable abbrev nL(l:List Str):List Str:=l
abbrev oP:=top 2
abbrev p_:=top 3
abbrev qa:=top 4
abbrev EU:=top 5
abbrev mL:=inClass (top 14) 0
abbrev lZ:=inClass (top 15) 0
abbrev kB:=top 16
abbrev jO:=top 17
abbrev nO:=top 18
abbrev q9:=top 19
abbrev kC:=top 20
abbrev js:=top 21
abbrev l0:=top 22
abbrev y4:=top 23
abbrev oy:=top 24
abbrev qb:=top 25
abbrev uU:=top 26
abbrev l6:=inClass (top 27) 0
abbrev l8:=inClass (top 27) 1
abbrev kG:=inClass (top 27) 2
abbrev qc:=top 31
abbrev oQ:=top 32
abbrev q_:=top 33
abbrev jU:=top 34
abbrev mO:=inClass (top 35) 0
abbrev qd:=inClass (top 35) 1
abbrev nP:=inClass (top 35) 3
abbrev qf:=inClass (top 35) 4
abbrev mx:=inClass (top 35) 5
abbrev qg:=inClass (top 35) 12
abbrev qh:=inClass (top 35) 13
abbrev mQ:=inClass (top 35) 14
abbrev j5:=inClass (top 35) 16
abbrev mR:=inClass (top 35) 17
abbrev kW:=inClass (top 35) 18
abbrev l9:=inClass (top 35) 21
abbrev ra:=inClass (top 35) 22
abbrev nQ:=top 37
abbrev rb:=top 38
abbrev oz:=top 39
abbrev nE:=top 40
abbrev rg:=top 41
abbrev qi:=top 42
abbrev mS:=top 43
abbrev l_:=top 44
abbrev oR:=top 45
abbrev rh:=top 46
abbrev qj:=top 47
abbrev oA:=top 48
abbrev kq:=top 49
abbrev AZ:=top 50
abbrev xW:=nL ["self","name","text","upper_name","lower_name"]
theorem wc:gs xW ["self","name","text","upper_name","lower_name"] (f_ mL):=nM
abbrev we:=nL ["self","name","file","puts","cuts","other"]
theorem uV:gs we ["self","name","file","puts","cuts","other"] (f_ lZ):=nM
abbrev pe:=nL ["patch","names","line","name"]
theorem j6:gs pe ["patch"] (f_ kB):=nM
abbrev m_:=nL ["patch","leant","name"]
theorem kr:gs m_ ["patch"] (f_ jO):=nM
noncomputable abbrev y7:=nL ["patches","taken_back","live","patch"]
theorem kT:gs y7 ["patches"] (f_ nO):=nM
abbrev Dj:=nL ["patches","file","lines","patch"]
theorem qk:gs Dj ["patches","file"] (f_ q9):=nM
noncomputable abbrev pf:=nL ["patches","file","live","gone","patch","name","line"]
theorem jf:gs pf ["patches","file"] (f_ kC):=nM
abbrev kX:=nL ["patches","files","patch","file"]
theorem jP:gs kX ["patches"] (f_ js):=nM
abbrev wg:=nL ["lines","straight","line"]
theorem j7:gs wg ["lines"] (f_ l0):=nM
abbrev Ja:=nL ["names","ahead","found","name"]
theorem wj:gs Ja ["names","ahead"] (f_ y4):=nM
abbrev xk:=nL ["lines","straight","ahead","line","climb","name","missing","other"]
theorem jD:gs xk ["lines"] (f_ oy):=nM
abbrev BH:=nL ["waiting","name"]
theorem tE:gs BH ["waiting"] (f_ qb):=nM
abbrev Dl:=nL ["lines","ahead","by_name","waiting","line","row","name","other"]
theorem k8:gs Dl ["lines","ahead"] (f_ uU):=nM
abbrev wk:=nL ["self","patches","file"]
theorem uW:gs wk ["self","patches","file"] (f_ l6):=nM
abbrev wo:=nL ["self","first","second"]
theorem uX:gs wo ["self","first","second"] (f_ l8):=nM
abbrev sW:=nL ["self","pairs","first","second"]
theorem jE:gs sW ["self"] (f_ kG):=nM
abbrev BI:=nL ["name","sign"]
theorem tF:gs BI ["name"] (f_ qc):=nM
abbrev Ag:=nL ["kept_names","size","behind","place"]
theorem nR:gs Ag ["kept_names","size"] (f_ oQ):=nM
abbrev Dm:=nL ["patch","texts","kept_names","behind","lines","upper_name","place","text"]
theorem jF:gs Dm ["patch","texts","kept_names"] (f_ q_):=nM
abbrev ma:=nL ["patch","file","row","texts","kept_names","left","first","second","cuts","line"]
theorem iL:gs ma ["patch","file","row","texts"] (f_ jU):=nM
abbrev xX:=nL ["self"]
theorem wq:gs xX ["self"] (f_ mO):=nM
abbrev BJ:=nL ["self","store"]
theorem Ai:gs BJ ["self","store"] (f_ qd):=nM
abbrev y8:=nL ["self"]
theorem xY:gs y8 ["self"] (f_ nP):=nM
abbrev y9:=nL ["self","store","name"]
theorem xl:gs y9 ["self","store"] (f_ qf):=nM
abbrev tG:=nL ["self","store","patch","file","texts","sight","line"]
theorem nS:gs tG ["self","store","patch","file","texts"] (f_ mx):=nM
abbrev BK:=nL ["self","store"]
theorem Aj:gs BK ["self","store"] (f_ qg):=nM
abbrev y_:=nL ["self","store","file","line"]
theorem xm:gs y_ ["self","store","file"] (f_ qh):=nM
abbrev xZ:=nL ["self","store","file"]
theorem wu:gs xZ ["self","store","file"] (f_ mQ):=nM
abbrev oB:=nL ["self","store","name"]
theorem nU:gs oB ["self","store"] (f_ j5):=nM
abbrev x4:=nL ["self","store","file"]
theorem wx:gs x4 ["self","store","file"] (f_ mR):=nM
abbrev uf:=nL ["self","store"]
theorem sX:gs uf ["self","store"] (f_ kW):=nM
abbrev wy:=nL ["self","patch","files","name"]
theorem oC:gs wy ["self","patch","files"] (f_ l9):=nM
abbrev Dq:=nL ["self","store","patch","needs","name"]
theorem ql:gs Dq ["self","store","patch"] (f_ ra):=nM
abbrev za:=nL ["script","k"]
theorem x5:gs za ["script","k"] (f_ nQ):=nM
abbrev Dr:=nL ["cell","k","signs","size","base","far","found","j"]
theorem jj:gs Dr ["cell","k"] (f_ rb):=nM
abbrev xn:=nL ["cell","signs","size","j"]
theorem lE:gs xn ["cell"] (f_ oz):=nM
abbrev uY:=nL ["script","first","size","k"]
theorem tH:gs uY ["script","first","size"] (f_ nE):=nM
abbrev Ds:=nL ["texts","cell","at","line","more","way","out","turned"]
theorem jY:gs Ds ["texts","cell"] (f_ rg):=nM
abbrev BL:=nL ["found"]
theorem Ak:gs BL ["found"] (f_ qi):=nM
abbrev x6:=nL ["row","line"]
theorem ph:gs x6 ["row"] (f_ mS):=nM
abbrev wz:=nL ["found","due","name"]
theorem oE:gs wz ["found","due"] (f_ l_):=nM
abbrev Al:=nL ["old","new","rows","i","j"]
theorem lF:gs Al ["old","new"] (f_ oR):=nM
abbrev Dt:=nL ["rows","old","new","left","right","i","j"]
theorem qm:gs Dt ["rows","old","new","left","right"] (f_ rh):=nM
abbrev BM:=nL ["old","new","rows","stays","pair"]
theorem kP:gs BM ["old","new"] (f_ qj):=nM
abbrev xo:=nL ["row","texts","patch","stays","found","number","k","line"]
theorem jZ:gs xo ["row","texts","patch"] (f_ oA):=nM
abbrev rj:=nL ["desk","store","file"]
theorem qQ:gs rj ["desk","store","file"] (f_ kq):=nM
abbrev FU:=nL ["script","desk","store","files","rows","names","many","k","cell","at","texts","name","handed","side","found","line"]
theorem jJ:gs FU ["script"] (f_ AZ):=nM
structure Txt(mg:Qqx):Prop where
 jW:mg "len"=none
 jQ:mg "range"=none
 Jb:mg "max"=none
 jG:mg "isinstance"=none
 MF:mg "int"=none
 N_:mg "bool"=none
 ug:mg "list"=none
 Ls:mg "tuple"=none
 Jc:mg "str"=none
 qo:mg "reversed"=none
 Du:mg "sorted"=none
 Q0:mg "set"=none
 Dw:mg "enumerate"=none
 Lu:mg "ValueError"=none
structure Ad where
 Am:Addr
 An:FuncData
 BN:Addr
 BO:FuncData
 BP:Addr
 BQ:FuncData
 Jd:Addr
 Je:FuncData
 mT:Addr
 qH:FuncData
 me:Addr
 pj:FuncData
 pk:Addr
 pq:FuncData
 nc:Addr
 ni:FuncData
 rm:Addr
 rn:FuncData
 xp:Addr
 xq:FuncData
 pw:Addr
 pA:FuncData
 nV:Addr
 nX:FuncData
 pB:Addr
 pC:FuncData
 Dx:Addr
 Dy:FuncData
 xr:Addr
 xt:FuncData
 uZ:Addr
 u0:FuncData
 Dz:Addr
 DA:FuncData
 mf:Addr
 pE:FuncData
 pF:Addr
 pG:FuncData
 nj:Addr
 nq:FuncData
 u4:Addr
 u9:FuncData
 tI:Addr
 tJ:FuncData
 xu:Addr
 xv:FuncData
 pH:Addr
 pI:FuncData
 mU:Addr
 qI:FuncData
 u_:Addr
 va:FuncData
 rA:Addr
 rB:FuncData
 zb:Addr
 zc:FuncData
 tK:Addr
 tL:FuncData
 vb:Addr
 vc:FuncData
 zd:Addr
 ze:FuncData
 qJ:Addr
 qK:FuncData
 oF:Addr
 oG:FuncData
 qL:Addr
 qM:FuncData
 nY:Addr
 nZ:FuncData
 pJ:Addr
 pK:FuncData
 xw:Addr
 xx:FuncData
 rC:Addr
 rD:FuncData
 xy:Addr
 xA:FuncData
 xB:Addr
 xC:FuncData
 vd:Addr
 ve:FuncData
 xD:Addr
 xE:FuncData
 vg:Addr
 vj:FuncData
 qN:Addr
 qO:FuncData
 pL:Addr
 pM:FuncData
 tM:Addr
 tN:FuncData
 xF:Addr
 xG:FuncData
 vp:Addr
 vt:FuncData
 xH:Addr
 xI:FuncData
 mF:Addr
 mG:FuncData
 hX:Addr
 hV:Addr
 ic:Addr
 g_:Addr
 lG:Addr
 j3:Addr
 jX:Addr
 jm:Addr
 k9:Addr
 wA:Addr
 nF:Tok
 lH:Tok
 z:Unit
structure Ok(K:Qqy)(mg:Qqx)(A:Ad):Prop where
 rE:DF K mg "counts_with" oP A.Am A.An ["text","new","below"]
 uh:DF K mg "most_pairs" p_ A.BN A.BO ["old","new"]
 ui:DF K mg "place_from" qa A.BP A.BQ ["texts","text","start"]
 kept:DF K mg "kept" EU A.Jd A.Je ["old","new"]
 tO:DM K A.hX "__init__" "Line.__init__" mL A.mT A.qH ["self","name","text","upper_name","lower_name"]
 rF:DM K A.hV "__init__" "Patch.__init__" lZ A.me A.pj ["self","name","file","puts","cuts","other"]
 rG:DF K mg "lines_named_by" kB A.pk A.pq ["patch"]
 oH:DF K mg "leans_straight_on" jO A.nc A.ni ["patch"]
 vv:DF K mg "live_patches" nO A.rm A.rn ["patches"]
 wB:DF K mg "lines_put" q9 A.xp A.xq ["patches","file"]
 n4:DF K mg "standing_lines" kC A.pw A.pA ["patches","file"]
 pN:DF K mg "files_with_lines" js A.nV A.nX ["patches"]
 rH:DF K mg "straight_ahead" l0 A.pB A.pC ["lines"]
 joined:DF K mg "joined" y4 A.Dx A.Dy ["names","ahead"]
 A1:DF K mg "all_ahead" oy A.xr A.xt ["lines"]
 zf:DF K mg "first_free" qb A.uZ A.u0 ["waiting"]
 Jf:DF K mg "row_of" uU A.Dz A.DA ["lines","ahead"]
 rJ:DM K A.ic "__init__" "Sight.__init__" l6 A.mf A.pE ["self","patches","file"]
 rK:DM K A.ic "is_ahead" "Sight.is_ahead" l8 A.pF A.pG ["self","first","second"]
 jH:DM K A.ic "quarrelling" "Sight.quarrelling" kG A.nj A.nq ["self"]
 uj:DF K mg "check_name" qc A.u4 A.u9 ["name"]
 xJ:DF K mg "kept_behind" oQ A.tI A.tJ ["kept_names","size"]
 A2:DF K mg "new_lines" q_ A.xu A.xv ["patch","texts","kept_names"]
 rL:DF K mg "changing_patch" jU A.pH A.pI ["patch","file","row","texts"]
 tP:DM K A.g_ "__init__" "Desk.__init__" mO A.mU A.qI ["self"]
 zg:DM K A.g_ "begin" "Desk.begin" qd A.u_ A.va ["self","store"]
 lI:DM K A.g_ "patches" "Desk.patches" nP A.rA A.rB ["self"]
 vw:DM K A.g_ "has" "Desk.has" qf A.zb A.zc ["self","store"]
 xK:DM K A.g_ "record" "Desk.record" mx A.tK A.tL ["self","store","patch","file","texts"]
 uk:DM K A.g_ "files" "Desk.files" qg A.vb A.vc ["self","store"]
 DB:DM K A.g_ "row" "Desk.row" qh A.zd A.ze ["self","store","file"]
 oS:DM K A.g_ "quarrels" "Desk.quarrels" mQ A.qJ A.qK ["self","store","file"]
 mV:DM K A.g_ "patches_of" "Desk.patches_of" j5 A.oF A.oG ["self","store"]
 my:DM K A.g_ "sight_of" "Desk.sight_of" mR A.qL A.qM ["self","store","file"]
 mi:DM K A.g_ "check_store" "Desk.check_store" kW A.nY A.nZ ["self","store"]
 rM:DM K A.g_ "check_new" "Desk.check_new" l9 A.pJ A.pK ["self","patch","files"]
 A3:DM K A.g_ "keep" "Desk.keep" ra A.xw A.xx ["self","store","patch"]
 i5:DF K mg "_law_cell_at" nQ A.rC A.rD ["script","k"]
 sD:DF K mg "_law_name" rb A.xy A.xA ["cell","k"]
 sE:DF K mg "_law_text" oz A.xB A.xC ["cell"]
 zh:DF K mg "_law_texts" nE A.vd A.ve ["script","first","size"]
 A4:DF K mg "_law_edit" rg A.xD A.xE ["texts","cell"]
 zi:DF K mg "_law_whole" qi A.vg A.vj ["found"]
 tQ:DF K mg "_law_row_form" mS A.qN A.qO ["row"]
 lJ:DF K mg "_law_names_are" l_ A.pL A.pM ["found","due"]
 xM:DF K mg "_law_behind" oR A.tM A.tN ["old","new"]
 wC:DF K mg "_law_pair" rh A.xF A.xG ["rows","old","new","left","right"]
 zj:DF K mg "_law_stays" qj A.vp A.vt ["old","new"]
 A5:DF K mg "_law_next" oA A.xH A.xI ["row","texts","patch"]
 n5:DF K mg "_law_lists_changed" kq A.mF A.mG ["desk","store","file"]
 iO:El K A.hX
 Oa:Mk K A.hX A.mT
 Ob:mg "Line"=some (.ref A.hX)
 hZ:jT K A.hX "name"
 jI:jT K A.hX "text"
 iD:jT K A.hX "upper_name"
 iE:jT K A.hX "lower_name"
 i6:El K A.hV
 Lv:Mk K A.hV A.me
 Lw:mg "Patch"=some (.ref A.hV)
 iT:jT K A.hV "name"
 jl:jT K A.hV "file"
 jK:jT K A.hV "puts"
 jL:jT K A.hV "cuts"
 iW:jT K A.hV "other"
 j8:El K A.ic
 Lx:Mk K A.ic A.mf
 Ly:mg "Sight"=some (.ref A.ic)
 jt:jT K A.ic "ahead"
 iw:jT K A.ic "lines"
 iB:El K A.g_
 Oc:Mk K A.g_ A.mU
 Od:mg "Desk"=some (.ref A.g_)
 i7:jT K A.g_ "made"
 jM:jT K A.g_ "needs"
 i8:jT K A.g_ "held"
 Lz:Exc K mg "PatchError" A.lG
 A6:Exc K mg "BadName" A.j3
 xN:Exc K mg "NameTaken" A.jX
 G4:Exc K mg "NoStore" A.jm
 DC:Exc K mg "Unsettled" A.k9
 Oe:Exc K mg "Same" A.wA
 BR:mg "NAME_SIGNS"=some (.str (Str.ofString "abcdefghijklmnopqrstuvwxyz0123456789") A.nF)
 rN:mg "LONGEST_NAME"=some (.int 12 A.lH)
 z:True
end
open PySem L2 PM
noncomputable def nk(n:Nm):List Key:=[Sum.inr n.1,Sum.inl (n.2:Int)]
theorem oT{a b:Nm}(h:nk a=nk b):a=b:=by
 unfold nk at h
 injection h with h1 h2
 injection h2 with h2 _
 exact Prod.ext (acv h1) (by have:=Sum.inl.inj h2;omega)
noncomputable abbrev nT(n:Nm):HO:=.tup ((nk n).map kV)
def kI(H:Hp)(v:V)(n:Nm):Prop:=∃t,v=.ref t/\H t=some (nT n)
def CN(H:Hp)(v:V):Option Nm->Prop
 | none=>v=.jb
 | some n=>kI H v n
def PQ(v:V):Option Str->Prop
 | none=>v=.jb
 | some x=>v=.str x
noncomputable def LA(a b c d:V):List (Str×V):=[("name",a),("text",b),("upper_name",c),("lower_name",d)]
theorem i0{a b c d:V}:(LA a b c d).lookup ("name":Str)=some a:=by kernel_rfl
theorem zm{a b c d:V}:(LA a b c d).lookup ("text":Str)=some b:=by kernel_rfl
theorem EV{a b c d:V}:(LA a b c d).lookup ("upper_name":Str)=some c:=by kernel_rfl
theorem EW{a b c d:V}:(LA a b c d).lookup ("lower_name":Str)=some d:=by kernel_rfl
noncomputable def Ku(a b c d e:V):List (Str×V):=[("name",a),("file",b),("puts",c),("cuts",d),("other",e)]
theorem rO{a b c d e:V}:(Ku a b c d e).lookup ("name":Str)=some a:=by kernel_rfl
theorem zo{a b c d e:V}:(Ku a b c d e).lookup ("file":Str)=some b:=by kernel_rfl
theorem DD{a b c d e:V}:(Ku a b c d e).lookup ("puts":Str)=some c:=by kernel_rfl
theorem DE{a b c d e:V}:(Ku a b c d e).lookup ("cuts":Str)=some d:=by kernel_rfl
theorem sF{a b c d e:V}:(Ku a b c d e).lookup ("other":Str)=some e:=by kernel_rfl
def lP(A:Ad)(H:Hp)(a:Addr)(l:Ln):Prop:=∃dx vn vu vl,H a=some (.ins A.hX dx (LA vn (.str l.tx) vu vl))/\kI H vn l.nm/\CN H vu l.up/\CN H vl l.lo
def pO(A:Ad)(H:Hp)(a:Addr)(ls:List Ln):Prop:=∃as:List Addr,H a=some (.lst (as.map V.ref))/\Paired (lP A H) as ls
def x8(H:Hp)(a:Addr)(ns:List Nm):Prop:=∃vs,H a=some (.lst vs)/\Paired (kI H) vs ns
def pP(A:Ad)(H:Hp)(a:Addr)(p:Pt):Prop:=∃dx vf pu cu vo,H a=some (.ins A.hV dx (Ku (.str p.nm) vf (.ref pu) (.ref cu) vo))/\PQ vf p.file/\pO A H pu p.iF/\x8 H cu p.jx/\PQ vo p.other
def wD(A:Ad)(H:Hp)(a:Addr)(ps:List Pt):Prop:=∃as:List Addr,H a=some (.lst (as.map V.ref))/\Paired (pP A H) as ps
section
variable{A:Ad}{H H':Hp}{a:Addr}
theorem kI.same{v:V}{n:Nm}(x:kI H v n)(s:gg H H'):kI H' v n:=by obtain⟨t,e,h⟩:=x;exact⟨t,e,s _ _ h⟩
theorem CN.same{v:V}{o:Option Nm}(x:CN H v o)(s:gg H H'):CN H' v o:=by
 cases o with
 | none=>exact x
 | some n=>exact kI.same x s
theorem lP.same{l:Ln}(x:lP A H a l)(s:gg H H'):lP A H' a l:=by
 obtain⟨dx,vn,vu,vl,h,h1,h2,h3⟩:=x
 exact⟨dx,vn,vu,vl,s _ _ h,h1.same s,h2.same s,h3.same s⟩
theorem pO.same{ls:List Ln}(x:pO A H a ls)(s:gg H H'):pO A H' a ls:=by
 obtain⟨as,h,p⟩:=x
 exact⟨as,s _ _ h,Paired.j0 p λ_ _ z=>z.same s⟩
theorem x8.same{ns:List Nm}(x:x8 H a ns)(s:gg H H'):x8 H' a ns:=by
 obtain⟨vs,h,p⟩:=x
 exact⟨vs,s _ _ h,Paired.j0 p λ_ _ z=>z.same s⟩
theorem pP.same{p:Pt}(x:pP A H a p)(s:gg H H'):pP A H' a p:=by
 obtain⟨dx,vf,pu,cu,vo,h,h1,h2,h3,h4⟩:=x
 exact⟨dx,vf,pu,cu,vo,s _ _ h,h1,h2.same s,h3.same s,h4⟩
theorem wD.same{ps:List Pt}(x:wD A H a ps)(s:gg H H'):wD A H' a ps:=by
 obtain⟨as,h,p⟩:=x
 exact⟨as,s _ _ h,Paired.j0 p λ_ _ z=>z.same s⟩
end
theorem il{Z Y:Type}{F:Z->Y->Prop}{xs:List Z}{ys:List Y}(p:Paired F xs ys):∀{i:Nat} {x:Z},xs[i]?=some x->∃y,ys[i]?=some y/\F x y:=by
 induction p with
 | nil=>intro i x h;simp at h
 | cons f t ih=>
  intro i x h
  cases i with
  | zero=>simp at h;subst h;exact⟨_,rfl,f⟩
  | succ i=>simpa using ih (by simpa using h)
theorem k_{Z Y:Type}{F:Z->Y->Prop}{xs:List Z}{ys:List Y}(p:Paired F xs ys):∀{i:Nat} {y:Y},ys[i]?=some y->∃x,xs[i]?=some x/\F x y:=by
 induction p with
 | nil=>intro i x h;simp at h
 | cons f t ih=>
  intro i x h
  cases i with
  | zero=>simp at h;subst h;exact⟨_,rfl,f⟩
  | succ i=>simpa using ih (by simpa using h)
theorem um{Z Y:Type}{F:Z->Y->Prop}{xs zs:List Z}{ys ws:List Y}(p:Paired F xs ys)(q:Paired F zs ws):Paired F (xs++zs) (ys++ws):=by
 induction p with
 | nil=>exact q
 | cons f t ih=>exact .cons f ih
theorem ix{Z Y:Type}{F:Z->Y->Prop}{xs:List Z}{ys:List Y}{x:Z}{y:Y}(p:Paired F xs ys)(h:F x y):Paired F (xs++[x]) (ys++[y]):=um p (.cons h .nil)
theorem zp{Z Y:Type}{F:Z->Y->Prop}{xs:List Z}{ys:List Y}(p:Paired F xs ys):Paired F xs.reverse ys.reverse:=by
 induction p with
 | nil=>exact .nil
 | cons f t ih=>rw[acn,acn];exact ix ih f
theorem jR{as:List Addr}{i:Nat}{v:V}(h:(as.map V.ref)[i]?=some v):∃b,as[i]?=some b/\v=.ref b:=by
 rw[YI] at h
 obtain⟨b,e,rfl⟩:=Option.map_eq_some_iff.mp h
 exact⟨b,e,rfl⟩
theorem PQ.eq{v:V}{o:Option Str}(h:PQ v o)(f:Str):decide (v=.str f)=decide (o=some f):=by
 cases o with
 | none=>rw[show v=.jb from h,aai (λz=>by cases z),aai (λz=>by cases z)]
 | some x=>
  rw[show v=.str x from h]
  by_cases e:x=f
  ·subst e;rw[V7 rfl,V7 rfl]
  ·rw[aai (λz=>e (V.str.inj z)),aai (λz=>e (aal z))]
theorem PR{Z:Type}{xs:List Z}{x:Z}{i:Nat}(h:xs.length<=i:=by assumption):(xs++[x]).length<=i+1:=by rw[Vh];exact Nat.succ_le_succ h
def z7(n:Nat):Prop:=n<=4000
theorem z7.sz{n:Nat}(h:z7 n):n<=sizeLine:=aao h (by decide)
section
variable{P:Program}{w:World}{K:Qqy}{mg:Qqx}{base:Heap}{A:Ad}
def Of(A:Ad):Sp:=λvs H Q _=>∃(a:Addr)(ps:List Pt),vs=[.ref a]/\wD A H a ps/\z7 ps.length/\∀p H',gg H H'->H p=none->wD A H' p (live ps)->Q (.ref p) H'
def Tb(kvs:List (Key×V))(t:List Str):Prop:=∀x,(iA kvs (Sum.inr x)).isSome=decide (x∈t)
theorem Tb.put{kvs:List (Key×V)}{t:List Str}(h:Tb kvs t)(y:Str)(v:V):Tb (putK kvs (Sum.inr y) v) (y::t):=λx=>by
 rw[jq]
 by_cases e:x=y
 ·subst e;rw[aag rfl,V7 aae];rfl
 ·rw[aac (λz=>e (acv z)),h x]
  by_cases m:x∈t
  ·rw[V7 m,V7 (YE _ m)]
  ·rw[aai m,aai (λz=>(V9.mp z).elim e m)]
theorem EY(p:Pt)(r:List Pt)(t:List Str):mZ (p::r) t=if p.nm∈t then mZ r t else p::mZ r (match p.other with|some o=>o::t|none=>t):=rfl
theorem x9(T:Txt mg)(O:Ok K mg A):iq P w K mg base lN 1 A.rm A.rn ["patches"] (Of A):=by
 refine O.vv.f.pR kT λjv A0 outer s H vs Q E hr h=>?_
 obtain⟨a,ps,rfl,⟨as,ha,pa⟩,kL,q⟩:=h
 have hlen:=aaj pa
 refine⟨_,(c_ (lg 1 kT mD)
   (c_ (lg 2 kT (ji d_))
   (c_ (iI aap rfl (Lb rfl T.qo (ak (pv 0) d_)) (uc 3 kT) (eV (iJ (jw (o5 (by exact iS hr) (hU (pv 3) rfl) (pv 1))) (c_ (iu (k7 aaq aax aay iP (pv 2) (ak (pv 3) d_)))
   (eV (iJ (jw (nu (hU (pv 3) rfl))) (eV (jd (by exact iS hr) (pv 1) (hU (pv 3) rfl) mz rfl)) ie))) ie)))
   (eV (ia (EH rfl (by rfl) T.ug (by rfl) T.qo (ak (pv 2) d_))))))),?_⟩
 refine PJ ?_;intro _ _ _
 intro t ht
 have s1:gg H (upd H t (.dK [])):=(gg.refl H).new ht
 refine⟨L2.kL,λl hl=>?_⟩
 have s2:gg H (upd (upd H t (.dK [])) l (.lst [])):=s1.new hl
 have Kz:t≠l:=λz=>by rw[z] at hl;rw[a_] at hl;cases hl
 refine⟨_,rfl,a,_,rfl,h_.of (s2 a _ ha),Lc (K:=K) (a:=a) (xs:=as.map V.ref) (λi Z H2=>∃(v:Option V)(kvs:List (Key×V))(tb:List Str)(ls:List Addr)(lp:List Pt),Z=[rr a,rr t,rr l,v]/\gg H H2/\H2 t=some (.dK kvs)/\Tb kvs tb/\kvs.length<=i/\H2 l=some (.lst (ls.map V.ref))/\ls.length<=i/\Paired (pP A H) ls lp/\lp++mZ (ps.reverse.drop i) tb=mZ ps.reverse [])
  ⟨none,[],[],[],[],rfl,s2,by rw[de Kz];exact a_,(λx=>rfl),Vb _,a_,Vb _,.nil,rfl⟩ (by rintro _ _ _ _ ⟨_,_,_,_,_,_,s3,_⟩;exact h_.of (s3 a _ ha)) ?_ ?_⟩
 ·rintro i v Z H2 hx ⟨v0,kvs,tb,ls,lp,rfl,s3,h1,h2,h3,h4,h5,h6,h7⟩
  rw[<-List.map_reverse] at hx
  obtain⟨b,hb,rfl⟩:=jR hx
  obtain⟨p,hp,dx,vf,pu,cu,vo,g1,g2,g3,g4,g5⟩:=il (zp pa) hb
  have hi:i<ps.reverse.length:=(List.getElem?_eq_some_iff.mp hp).1
  have yq:i<4000:=by rw[abk] at hi;exact aaw hi kL
  have hd:ps.reverse.drop i=p::ps.reverse.drop (i+1):=by rw[aaU hi];congr 1;exact(List.getElem?_eq_some_iff.mp hp).2
  rw[hd] at h7
  refine⟨_,rfl,b,A.hV,dx,_,_,rfl,s3 _ _ g1,O.i6,O.iT,rO,_,rfl,t,_,rfl,jg.k (k:=Sum.inr p.nm) h1,_,rfl,?_⟩
  rw[h2 p.nm]
  rw[EY] at h7
  by_cases hm:p.nm∈tb
  ·rw[aag hm] at h7
   rw[V7 hm]
   exact j_ ⟨_,kvs,tb,ls,lp,rfl,s3,h1,h2,by omega,h4,by omega,h6,h7⟩
  ·rw[aac hm] at h7
   rw[aai hm]
   refine oM ?_
   refine⟨_,rfl,.inl ⟨rfl,_,h_.of h4⟩,_,rfl,l,_,_,rfl,rfl,h4,by rw[QU];exact abn h5 (Nat.lt_trans yq (by decide)),?_⟩
   have V_:H l=none:=s1.free hl
   have s4:gg H (upd H2 l (.lst (ls.map V.ref++[V.ref b]))):=s3.upd V_
   have L9:upd H2 l (.lst (ls.map V.ref++[V.ref b])) t=some (.dK kvs):=by rw[de Kz];exact h1
   have e4:upd H2 l (.lst (ls.map V.ref++[V.ref b])) l=some (.lst ((ls++[b]).map V.ref)):=by rw[a_,aar];rfl
   have pp:Paired (pP A H) (ls++[b]) (lp++[p]):=ix h6 ⟨dx,vf,pu,cu,vo,g1,g2,g3,g4,g5⟩
   have Y9:(ls++[b]).length<=i+1:=PR
   refine⟨_,rfl,b,A.hV,dx,_,_,rfl,s4 _ _ g1,O.i6,O.iW,sF,_,rfl,?_⟩
   cases ho:p.other with
   | none=>
    rw[ho] at g5 h7
    rw[show vo=V.jb from g5]
    exact⟨_,kvs,tb,_,_,rfl,s4,L9,h2,by omega,e4,Y9,pp,by rw[aaK];exact h7⟩
   | some x=>
    rw[ho] at g5 h7
    rw[show vo=V.str x from g5] at g1 ⊢
    refine⟨_,rfl,_,rfl,b,A.hV,dx,_,_,rfl,s4 _ _ g1,O.i6,O.iW,sF,t,_,rfl,mB.k (k:=Sum.inr x) L9 (abn h3 (Nat.lt_trans yq (by decide))),?_⟩
    have Y_:=iQ kvs (Sum.inr x:Key) (V.bl true)
    have htH:H t=none:=ht
    exact⟨_,_,x::tb,_,_,rfl,s4.upd htH,a_,h2.put x _,by omega,by rw[de Kz.symm];exact e4,Y9,pp,by rw[aaK];exact h7⟩
 ·rintro Z H2 ⟨v0,kvs,tb,ls,lp,rfl,s3,h1,h2,h3,h4,h5,h6,h7⟩
  rw[QU] at h3 h5 h7
  rw[hlen,<-abk,acq] at h7
  have h7:lp=mZ ps.reverse []:=by rw[show mZ [] tb=[] from rfl,aaJ] at h7;exact h7
  refine⟨_,rfl,l,_,rfl,h_.of h4,λp hp=>?_⟩
  have s4:=s3.new (o:=.lst (ls.map V.ref).reverse) hp
  refine q p _ s4 (s3.free hp) ⟨ls.reverse,by rw[a_,List.map_reverse],?_⟩
  unfold live
  rw[<-h7]
  exact Paired.j0 (zp h6) λ_ _ z=>z.same s4
theorem rP{Z Y:Type}{f:Z->List Y}{ps qs:List Z}(h:ps.Sublist qs):(ps.flatMap f).Sublist (qs.flatMap f):=by
 induction h with
 | slnil=>exact aaC _
 | cons x _ ih=>rw[aaF];exact ih.trans (aa1 _ _)
 | cons_cons x _ ih=>rw[aaF,aaF];exact(aaC _).append ih
structure Small(ps:List Pt):Prop where
 many:z7 ps.length
 iF:z7 (ps.flatMap (·.iF)).length
 jx:z7 (ps.flatMap (·.jx)).length
theorem Small.sub{ps qs:List Pt}(h:ps.Sublist qs)(s:Small qs):Small ps:=⟨aao h.length_le s.many,aao (rP h).length_le s.iF,aao (rP h).length_le s.jx⟩
theorem qp(ps:List Pt)(f:Str):(gk ps f).length<=(ps.flatMap (·.iF)).length:=(rP aa0).length_le
theorem Ao(ps:List Pt)(p:Pt)(f:Str):gk (ps++[p]) f=gk ps f++if p.file=some f then p.iF else[]:=by
 unfold gk
 rw[aaH,aa3]
 by_cases h:p.file=some f
 ·rw[aag h,aad (by simpa using h),aaX,aaF,abC,aaJ]
 ·rw[aac h,aaf (by simpa using h),aaX,abC]
theorem take_snoc{Z:Type}{xs:List Z}{i:Nat}{x:Z}(h:xs[i]?=some x):xs.take (i+1)=xs.take i++[x]:=by rw[List.take_add_one,h];rfl
def PU(kvs:List (List Key×V))(ns:List Nm):Prop:=∀n,(iA kvs (nk n)).isSome=decide (n∈ns)
theorem PU.put{kvs:List (List Key×V)}{ns:List Nm}(h:PU kvs ns)(y:Nm)(v:V):PU (putK kvs (nk y) v) (ns++[y]):=λx=>by
 rw[jq]
 by_cases e:x=y
 ·subst e;rw[aag rfl,V7 (by simp)];rfl
 ·rw[aac (λz=>e (oT z)),h x]
  by_cases m:x∈ns
  ·rw[V7 m,V7 (aan _ m)]
  ·rw[aai m,aai (λz=>(YD.mp z).elim m λz=>e (Sd.mp z))]
def Q1(A:Ad):Sp:=λvs H Q _=>∃(a:Addr)(ps:List Pt)(f:Str),vs=[.ref a,.str f]/\wD A H a ps/\Small ps/\∀p H',gg H H'->H p=none->pO A H' p (gk ps f)->Q (.ref p) H'
theorem vy(T:Txt mg)(O:Ok K mg A):iq P w K mg base lN 1 A.xp A.xq ["patches","file"] (Q1 A):=by
 refine O.wB.f.pR qk λjv A0 outer s H vs Q E hr h=>?_
 obtain⟨a,ps,f,rfl,⟨as,ha,pa⟩,sm,q⟩:=h
 have hlen:=aaj pa
 refine⟨_,(c_ (lg 2 qk (ji d_))
   (c_ (iI aap rfl (iH (pv 0)) (uc 3 qk) (eV (iJ (ij lh (hU (pv 3) rfl) (pv 1) (iy _)) (eV (iu (k7 aaq PySem.F.slot_list_extend PySem.F.type_list_extend AJ (pv 2) (ak (hU (pv 3) rfl) d_)))) ie)))
   (eV (ia (pv 2))))),?_⟩
 refine Em ?_;intro _ _
 refine⟨L2.kL,λl hl=>?_⟩
 have s1:gg H (upd H l (.lst [])):=(gg.refl H).new hl
 dsimp only [o3];refine NW ?_;intro _
 let Jv:=λ(i:Nat) (Z:St) (H2:Hp)=>∃(v:Option V)(ls:List Addr),Z=[rr a,rs f,rr l,v]/\gg H H2/\H2 l=some (.lst (ls.map V.ref))/\Paired (lP A H) ls (gk (ps.take i) f)
 refine⟨_,rfl,a,rfl,⟨_,h_.of (s1 a _ ha)⟩,jy (K:=K) (a:=a) (xs:=as.map V.ref) Jv
  ⟨none,[],rfl,s1,a_,.nil⟩ (by rintro _ _ _ _ ⟨_,_,_,s3,_⟩;exact h_.of (s3 a _ ha)) ?_ ?_⟩
 ·rintro i v Z H2 hx ⟨v0,ls,rfl,s3,h4,h6⟩
  obtain⟨b,hb,rfl⟩:=jR hx
  obtain⟨p,hp,dx,vf,pu,cu,vo,g1,g2,⟨as2,g3,Se⟩,g4,g5⟩:=il pa hb
  have e:gk (ps.take (i+1)) f=gk (ps.take i) f++if p.file=some f then p.iF else[]:=by rw[take_snoc hp,Ao]
  refine⟨_,rfl,b,A.hV,dx,_,_,rfl,s3 _ _ g1,O.i6,O.jl,zo,_,rfl,?_⟩
  have hf:NA vf (V.str f)=true:=by
   cases hq:p.file with
   | none=>rw[hq] at g2;rw[show vf=V.jb from g2];rfl
   | some x=>rw[hq] at g2;rw[show vf=V.str x from g2];rfl
  refine⟨hf,_,rfl,?_⟩
  rw[g2.eq f]
  by_cases hm:p.file=some f
  ·rw[aag hm] at e
   rw[V7 hm]
   refine oM ?_
   refine⟨_,rfl,.inl ⟨rfl,_,h_.of h4⟩,_,rfl,b,A.hV,dx,_,_,rfl,s3 _ _ g1,O.i6,O.jK,DD,l,pu,_,_,rfl,rfl,h4,s3 _ _ g3,?_,?_⟩
   ·rw[QU,QU,aaj h6,aaj Se,<-Vh,<-e]
    exact aao (qp _ f) (Small.sub (acj _ _) sm).iF.sz
   ·refine⟨_,ls++as2,rfl,s3.upd hl,by rw[a_,aar],?_⟩
    rw[e]
    exact um h6 Se
  ·rw[aac hm,aaJ] at e
   rw[aai hm]
   exact j_ ⟨_,ls,rfl,s3,h4,by rw[e];exact h6⟩
 ·rintro Z H2 ⟨v0,ls,rfl,s3,h4,h6⟩
  rw[QU,hlen,aav] at h6
  exact⟨_,rfl,q l _ s3 hl ⟨ls,h4,Paired.j0 h6 λ_ _ z=>z.same s3⟩⟩
theorem G5(ps:List Pt)(p:Pt):gone (ps++[p])=gone ps++p.jx:=by
 unfold gone
 rw[aa3,aaF,abC,aaJ]
def LB(A:Ad):Sp:=λvs H Q _=>∃(a:Addr)(ps:List Pt)(f:Str),vs=[.ref a,.str f]/\wD A H a ps/\Small ps/\∀p H',gg H H'->H p=none->pO A H' p (iZ ps f)->Q (.ref p) H'
theorem oI(T:Txt mg)(O:Ok K mg A):iq P w K mg base lN 2 A.pw A.pA ["patches","file"] (LB A):=by
 have zJ:=@x9 P w K mg base A T O
 have sj:=@vy P w K mg base A T O
 refine O.n4.f.pR jf λjv A0 outer s H vs Q E hr h=>?_
 obtain⟨a,ps,f,rfl,pa,sm,q⟩:=h
 refine⟨_,(c_ (lg 2 jf (n_ O.vv zJ hr (ak (pv 0) d_)))
   (c_ (lU (i:=3) jf.nd rfl (Or.inr rfl) lu)
   (c_ (iI aap rfl (iH (pv 2)) (uc 4 jf) (eV (iI aap rfl (iH (hU (pv 4) rfl)) (uc 5 jf) (eV (jd (by exact iS hr) (pv 3) (pv 5) mz rfl)))))
   (eV (ia (vT pf (f_ kC).names [6] rfl (iH (n_ O.wB sj hr (ak (pv 2) (ak (pv 1) d_)))) rfl (by decide+kernel) (λ_ _ _ _=>(iK (i:=6) jf.nd rfl (Or.inl rfl))) (λ_ _ _ _=>⟨_,oO (jw (o5 (by exact iS hr) (hU (pv 6) rfl) (pv 3))),by(try simp only [kR]);rfl⟩) (λ_ _ _ _=>Bz (pv 6)))))))),?_⟩
 refine PJ ?_;intro _ _ _
 refine⟨_,rfl,a,ps,rfl,pa,sm.many,λl H1 s1 P5 vJ=>?_⟩
 have Wa:Small (live ps):=sm.sub (uP ps)
 obtain⟨as,ha,pl⟩:=id vJ
 have hlen:=aaj pl
 intro g hg
 have s2:gg H1 (upd H1 g (.dT [])):=(gg.refl H1).new hg
 dsimp only [o3];refine NW ?_;intro _
 let Jv:=λ(i:Nat) (Z:St) (H2:Hp)=>∃(v4 v5:Option V)(kvs:List (List Key×V)),Z=[rr a,rs f,rr l,rr g,v4,v5,none]/\gg H1 H2/\H2 g=some (.dT kvs)/\PU kvs (gone ((live ps).take i))/\kvs.length<=(gone ((live ps).take i)).length
 refine⟨_,rfl,l,rfl,⟨_,h_.of (s2 l _ ha)⟩,jy (K:=K) (a:=l) (xs:=as.map V.ref) Jv
  ⟨none,none,[],rfl,s2,a_,(λx=>rfl),Vb _⟩ (by rintro _ _ _ _ ⟨_,_,_,_,s3,_⟩;exact h_.of (s3 l _ ha)) ?_ ?_⟩
 ·rintro i v Z H2 hx ⟨v4,v5,kvs,rfl,s3,h1,h2,h3⟩
  obtain⟨b,hb,rfl⟩:=jR hx
  obtain⟨p,hp,dx,vf,pu,cu,vo,g1,g2,g3,⟨cs,g4,P6⟩,g5⟩:=il pl hb
  have e:gone ((live ps).take (i+1))=gone ((live ps).take i)++p.jx:=by rw[take_snoc hp,G5]
  have hsz:(gone ((live ps).take i)++p.jx).length<=4000:=by rw[<-e];exact(Wa.sub (acj _ _)).jx
  rw[Vh] at hsz
  have M0:=aaj P6
  let Jv:=λ(j:Nat) (Z:St) (H3:Hp)=>∃(v5:Option V)(kvs:List (List Key×V)),Z=[rr a,rs f,rr l,rr g,rr b,v5,none]/\gg H1 H3/\H3 g=some (.dT kvs)/\PU kvs (gone ((live ps).take i)++p.jx.take j)/\kvs.length<=(gone ((live ps).take i)).length+j
  refine⟨_,rfl,b,A.hV,dx,_,_,rfl,s3 _ _ g1,O.i6,O.jL,DE,cu,rfl,⟨_,h_.of (s3 _ _ g4)⟩,jy (K:=K) (a:=cu) (xs:=cs) Jv
   ⟨v5,kvs,rfl,s3,h1,by rw[abU,aaJ];exact h2,by omega⟩ (by rintro _ _ _ _ ⟨_,_,_,s4,_⟩;exact h_.of (s4 cu _ g4)) ?_ ?_⟩
  ·rintro j v Z H3 hx ⟨v5,kvs,rfl,s4,h1,h2,h3⟩
   obtain⟨n,hn,t,rfl,ht⟩:=il P6 hx
   have hj:j<cs.length:=(List.getElem?_eq_some_iff.mp hx).1
   refine⟨_,rfl,_,rfl,g,_,rfl,mB.t (k:=nk n) h1 (s4 _ _ ht) (abn (m:=4000) (by omega) (by decide)),?_⟩
   have Y_:=iQ kvs (nk n) (V.bl true)
   refine⟨_,_,rfl,s4.upd hg,a_,?_,by omega⟩
   rw[take_snoc hn,<-aaK]
   exact h2.put n _
  ·rintro Z H3 ⟨v5,kvs,rfl,s4,h1,h2,h3⟩
   rw[M0,aav] at h2
   rw[M0] at h3
   exact⟨_,v5,kvs,rfl,s4,h1,by rw[e];exact h2,by rw[e,Vh];exact h3⟩
 ·rintro Z H2 ⟨v4,v5,kvs,rfl,s3,h1,h2,h3⟩
  rw[QU,hlen,aav] at h2
  refine⟨_,rfl,_,rfl,l,live ps,f,rfl,vJ.same s3,Wa,λp H3 s4 Eo ⟨Wb,Za,Zb⟩=>?_⟩
  have Zc:Wb.length=(gk (live ps) f).length:=aaj Zb
  have hbound:Wb.length<=4000:=by rw[Zc];exact aao (qp _ _) Wa.iF
  refine⟨p,rfl,⟨_,h_.of Za⟩,ky (K:=K) (a:=p) (xs:=Wb.map V.ref) (by rw[QU];exact aao hbound (by decide)) (λi ys Z H4=>∃(v6:Option V)(ls:List Addr),Z=[rr a,rs f,rr l,rr g,v4,v5,v6]/\H4=H3/\ys=ls.map V.ref/\ls.length<=i/\Paired (lP A H3) ls (((gk (live ps) f).take i).filter λl=>l.nm∉gone (live ps)))
   ⟨none,[],rfl,rfl,rfl,Vb _,.nil⟩ (by rintro _ _ _ _ _ ⟨_,ls,_,e,e2,e3,_⟩;subst e e2;exact⟨h_.of Za,by rw[QU];exact e3⟩) ?_ ?_⟩
  ·rintro i v ys Z H4 hx ⟨v6,ls,rfl,rfl,rfl,e3,h6⟩
   obtain⟨b,hb,rfl⟩:=jR hx
   obtain⟨ln,uy,dx,vn,vu,vl,k1,⟨t,rfl,k2⟩,k3,k4⟩:=il Zb hb
   refine⟨_,rfl,b,A.hX,dx,_,_,rfl,k1,O.iO,O.hZ,i0,_,rfl,g,_,rfl,jg.t (k:=nk ln.nm) (s4 _ _ h1) k2,_,rfl,?_⟩
   rw[h2 ln.nm,take_snoc uy,aaH]
   by_cases hm:ln.nm∈gone (live ps)
   ·rw[V7 hm]
    refine j_ ⟨_,ls,rfl,rfl,rfl,by omega,?_⟩
    rw[aaf (by simpa using hm),aaX,aaJ]
    exact h6
   ·rw[aai hm]
    refine oM ⟨_,rfl,_,ls++[b],rfl,rfl,by rw[aar];rfl,PR,?_⟩
    rw[aad (by simpa using hm),aaX]
    exact ix h6 ⟨dx,.ref t,vu,vl,k1,⟨t,rfl,k2⟩,k3,k4⟩
  ·rintro ys Z H4 ⟨v6,ls,rfl,rfl,rfl,e3,h6⟩ p2 yp
   rw[QU,Zc,aav] at h6
   have s5:=((s1.trans s3).trans s4).new (o:=.lst (ls.map V.ref)) yp
   refine q p2 _ s5 (((s1.trans s3).trans s4).free yp) ⟨ls,a_,?_⟩
   exact Paired.j0 h6 λ_ _ z=>z.same ((gg.refl H4).new yp)
theorem pQ{Z:Type}[DecidableEq Z](kvs:List (Z×V))(k:Z)(v:V):(putK kvs k v).map (·.1)=if k∈kvs.map (·.1) then kvs.map (·.1) else kvs.map (·.1)++[k]:=by
 unfold putK
 by_cases h:k∈kvs.map (·.1)
 ·have h':(kvs.any λkv=>decide (kv.1=k))=true:=by
   obtain⟨p,hp,e⟩:=List.mem_map.mp h
   exact List.any_eq_true.mpr ⟨p,hp,V7 e⟩
  rw[aag h',aag h,List.map_map]
  refine ab5 λp _=>?_
  show(if p.1=k then(p.1,v) else p).1=p.1
  split<;>rfl
 ·have h':¬(kvs.any λkv=>decide (kv.1=k))=true:=λz=>by
   obtain⟨p,hp,e⟩:=List.any_eq_true.mp z
   exact h (List.mem_map.mpr ⟨p,hp,aau e⟩)
  rw[aac h',aac h,aar]
  rfl
theorem sG{Z:Type}[DecidableEq Z]{kvs:List (Z×V)}{k:Z}:(iA kvs k).isSome=true↔k∈kvs.map (·.1):=by
 induction kvs with
 | nil=>exact⟨(λz=>by cases z),(λz=>by cases z)⟩
 | cons p r ih=>
  by_cases e:p.1=k
  ·rw[jh e,aat,e];exact⟨λ_=>aae,λ_=>rfl⟩
  ·rw[i_ e,ih,aat]
   exact⟨λm=>YE _ m,λz=>(V9.mp z).elim (λz=>absurd z.symm e) id⟩
theorem DG{Z:Type}[DecidableEq Z]{kvs:List (Z×V)}{k:Z}(h:k∉kvs.map (·.1)):iA kvs k=none:=by
 cases e:iA kvs k with
 | none=>rfl
 | some v=>exact absurd (sG.mp (by rw[e];rfl)) h
theorem rQ{n:Nm}{l:List Nm}:nk n∈l.map nk↔n∈l:=by
 constructor
 ·intro h
  obtain⟨m,hm,e⟩:=List.mem_map.mp h
  rw[<-oT e];exact hm
 ·exact λh=>Vi h
def Ap(H:Hp)(a:Addr)(l:List Nm):Prop:=∃dk,H a=some (.dT dk)/\dk.map (·.1)=l.map nk
def oa(l:List Nm)(m:Nm):List Nm:=if m∈l then l else l++[m]
theorem rR{l:List Nm}{m x:Nm}:x∈oa l m↔x∈l\/x=m:=by
 unfold oa
 split
 ·rename_i h
  exact⟨.inl,λz=>z.elim id λz=>z▸h⟩
 ·simp
theorem yk{l:List Nm}{m:Nm}(h:l.Nodup):(oa l m).Nodup:=by
 unfold oa
 split
 ·exact h
 ·rename_i hm
  rw[aa5]
  exact⟨h,by simp,λa ha b hb z=>hm (by rw[Sd.mp hb] at z;exact z▸ha)⟩
theorem DH{l:List Nm}{m:Nm}:(oa l m).length<=l.length+1:=by
 unfold oa
 split
 ·omega
 ·rw[Vh];exact Vb _
theorem vz{dk:List (List Key×V)}{l:List Nm}(h:dk.map (·.1)=l.map nk)(m:Nm)(v:V):(putK dk (nk m) v).map (·.1)=(oa l m).map nk:=by
 rw[pQ,h]
 unfold oa
 by_cases e:m∈l
 ·rw[aag (rQ.mpr e),aag e]
 ·rw[aac (λz=>e (rQ.mp z)),aac e,aar];rfl
noncomputable def zk(ns:List Nm)(ds:List Addr):List (List Key×V):=List.zipWith (λn d=>(nk n,V.ref d)) ns ds
theorem FV:∀{ns:List Nm} {ds:List Addr} (n:Nm) (d:Addr),ns.length=ds.length->zk (ns++[n]) (ds++[d])=zk ns ds++[(nk n,V.ref d)]
 | [],[],_,_,_=>rfl
 | [],_::_,_,_,h=>by simp at h
 | _::_,[],_,_,h=>by simp at h
 | x::r,y::t,n,d,h=>by
  show(nk x,V.ref y)::zk (r++[n]) (t++[d])=_
  rw[FV n d (by simpa using h)]
  rfl
theorem BS:∀{ns:List Nm} {ds:List Addr},ns.length=ds.length->(zk ns ds).map (·.1)=ns.map nk
 | [],[],_=>rfl
 | [],_::_,h=>by simp at h
 | _::_,[],h=>by simp at h
 | x::r,y::t,h=>by
  show nk x::(zk r t).map (·.1)=nk x::r.map nk
  rw[BS (by simpa using h)]
noncomputable def sY:List Nm->List Addr->Nm->Addr
 | x::r,d::t,n=>if x=n then d else sY r t n
 | _,_,_=>0
theorem Jg:∀{ns:List Nm} {ds:List Addr} {n:Nm},ns.length=ds.length->n∈ns->iA (zk ns ds) (nk n)=some (.ref (sY ns ds n))
 | [],_,_,_,hn=>by cases hn
 | _::_,[],_,h,_=>by simp at h
 | x::r,y::t,n,h,hn=>by
  show iA ((nk x,V.ref y)::zk r t) (nk n)=some (.ref (if x=n then y else sY r t n))
  by_cases e:x=n
  ·subst e
   rw[jh rfl,aag rfl]
  ·have hr:n∈r:=(V9.mp hn).elim (λz=>absurd z.symm e) id
   rw[i_ (λz=>e (oT z)),Jg (by simpa using h) hr,aac e]
theorem BU:∀{ns:List Nm} {ds:List Addr} {n:Nm},ns.length=ds.length->n∈ns->sY ns ds n∈ds
 | [],_,_,_,hn=>by cases hn
 | _::_,[],_,h,_=>by simp at h
 | x::r,y::t,n,h,hn=>by
  show(if x=n then y else sY r t n)∈y::t
  by_cases e:x=n
  ·rw[aag e];exact aae
  ·rw[aac e]
   exact YE _ (BU (by simpa using h) ((V9.mp hn).elim (λz=>absurd z.symm e) id))
theorem Jh:∀{ns:List Nm} {ds:List Addr} {n m:Nm},ns.length=ds.length->ds.Nodup->n∈ns->m∈ns->sY ns ds n=sY ns ds m->n=m
 | [],_,_,_,_,_,hn,_,_=>by cases hn
 | _::_,[],_,_,h,_,_,_,_=>by simp at h
 | x::r,y::t,n,m,h,nd,hn,hm,e=>by
  have hl:r.length=t.length:=by simpa using h
  rw[aaY] at nd
  have e:(if x=n then y else sY r t n)=(if x=m then y else sY r t m):=e
  by_cases e1:x=n
  ·by_cases e2:x=m
   ·exact e1.symm.trans e2
   ·rw[aag e1,aac e2] at e
    exact absurd (e▸BU hl ((V9.mp hm).elim (λz=>absurd z.symm e2) id)) nd.1
  ·have PY:=(V9.mp hn).elim (λz=>absurd z.symm e1) id
   by_cases e2:x=m
   ·rw[aac e1,aag e2] at e
    exact absurd (e▸BU hl PY) nd.1
   ·rw[aac e1,aac e2] at e
    exact Jh hl nd.2 PY ((V9.mp hm).elim (λz=>absurd z.symm e2) id) e
structure Vk(H:Hp)(p:Addr)(ns:List Nm)(ad:Nm->Addr)(sf:Nm->List Nm):Prop where
 at_:∃kvs,H p=some (.dT kvs)/\(∀n∈ns,iA kvs (nk n)=some (.ref (ad n)))/\kvs.map (·.1)=ns.map nk
 inj:∀n∈ns,∀m∈ns,ad n=ad m->n=m
 ks:∀n∈ns,Ap H (ad n) (sf n)
theorem LC{ls:List Ln}{l:Ln}{m n:Nm}:Sa (ls++[l]) m n↔Sa ls m n\/(l.nm=n/\l.up=some m)\/(l.nm=m/\l.lo=some n):=by
 unfold Sa
 constructor
 ·rintro⟨x,hx,q⟩
  rcases YD.mp hx with h|h
  ·exact .inl ⟨x,h,q⟩
  ·rw[Sd.mp h] at q;exact .inr q
 ·rintro(⟨x,hx,q⟩|q)
  ·exact⟨x,aan _ hx,q⟩
  ·exact⟨l,by simp,q⟩
def Q2(A:Ad):Sp:=λvs H Q _=>∃(a:Addr)(ls:List Ln),vs=[.ref a]/\pO A H a ls/\z7 ls.length/\(ls.map (·.nm)).Nodup/\p0 ls/\
 ∀p H' ad sf,gg H H'->H p=none->(∀n∈ls.map (·.nm),H (ad n)=none)->Vk H' p (ls.map (·.nm)) ad sf->(∀n,(sf n).Nodup/\∀m,m∈sf n↔Sa ls m n)->Q (.ref p) H'
theorem vA(T:Txt mg)(O:Ok K mg A):iq P w K mg base lN 1 A.pB A.pC ["lines"] (Q2 A):=by
 refine O.rH.f.pR j7 λjv A0 outer s H vs Q E hr h=>?_
 obtain⟨a,ls,rfl,⟨as,ha,pa⟩,kL,nd,cl,q⟩:=h
 have hlen:=aaj pa
 refine⟨_,(c_ (lg 1 j7 lu)
   (c_ (iI aap rfl (iH (pv 0)) (uc 2 j7) (eV (jd (by exact iS hr) (pv 1) (hU (pv 2) rfl) lu rfl)))
   (c_ (iI aap rfl (iH (pv 0)) (uc 2 j7) (c_ (nK (iJ (jw (nu (hU (pv 2) rfl))) (eV (jd (by exact iS hr) (Af hr (pv 1) (hU (pv 2) rfl)) (hU (pv 2) rfl) mz rfl)) ie))
   (eV (iJ (jw (nu (hU (pv 2) rfl))) (eV (jd (by exact iS hr) (Af hr (pv 1) (hU (pv 2) rfl)) (hU (pv 2) rfl) mz rfl)) ie))))
   (eV (ia (pv 1)))))),?_⟩
 refine PJ ?_;intro _ _ _
 intro p hp
 have s1:gg H (upd H p (.dT [])):=(gg.refl H).new hp
 dsimp only [o3];refine NW ?_;intro _
 let Jv:=λ(i:Nat) (Z:St) (H2:Hp)=>∃(v:Option V)(ds:List Addr),Z=[rr a,rr p,v]/\gg H H2/\H2 p=some (.dT (zk ((ls.take i).map (·.nm)) ds))/\ds.length=((ls.take i).map (·.nm)).length/\ds.Nodup/\(∀d∈ds,H d=none/\d≠p/\H2 d=some (.dT []))
 refine⟨_,rfl,a,rfl,⟨_,h_.of (s1 a _ ha)⟩,jy (K:=K) (a:=a) (xs:=as.map V.ref) Jv
  ⟨none,[],rfl,s1,a_,rfl,abh,λd hd=>by cases hd⟩ (by rintro _ _ _ _ ⟨_,_,_,s3,_⟩;exact h_.of (s3 a _ ha)) ?_ ?_⟩
 ·rintro i v Z H2 hx ⟨v0,ds,rfl,s3,h1,h2,h3,h4⟩
  obtain⟨b,hb,rfl⟩:=jR hx
  obtain⟨l,hl,dx,vn,vu,vl,g1,⟨t,rfl,g2⟩,g3,g4⟩:=il pa hb
  have hi:i<ls.length:=(List.getElem?_eq_some_iff.mp hl).1
  intro d hd
  have s4:gg H (upd H2 d (.dT [])):=s3.new hd
  have Wc:d≠p:=λz=>by rw[z,h1] at hd;cases hd
  have KA:d∉ds:=λz=>by rw[(h4 d z).2.2] at hd;cases hd
  have L9:upd H2 d (.dT []) p=some (.dT (zk ((ls.take i).map (·.nm)) ds)):=by rw[de Wc.symm];exact h1
  have zK:l.nm∉(ls.take i).map (·.nm):=λz=>by
   have e2:(ls.map (·.nm)).take i=(ls.take i).map (·.nm):=List.map_take.symm
   rw[<-e2] at z
   obtain⟨j,hj,e⟩:=aaT.mp z |>.imp λj h=>(⟨(List.getElem?_eq_some_iff.mp h).1,h⟩:j<((ls.map (·.nm)).take i).length/\((ls.map (·.nm)).take i)[j]?=some l.nm)
   have Mc:j<i:=by rw[aaA] at hj;omega
   rw[List.getElem?_take,aag Mc] at e
   have e3:(ls.map (·.nm))[i]?=some l.nm:=by rw[YI,hl];rfl
   have:=(List.getElem?_inj (List.getElem?_eq_some_iff.mp e).1 nd).mp (e.trans e3.symm)
   omega
  refine⟨_,rfl,_,rfl,b,A.hX,dx,_,_,rfl,s4 _ _ g1,O.iO,O.hZ,i0,p,_,rfl,mB.t (k:=nk l.nm) L9 (s4 _ _ g2) ?_,?_⟩
  ·have:(zk ((ls.take i).map (·.nm)) ds).length<=ds.length:=by unfold zk;rw[List.length_zipWith];exact Nat.min_le_right _ _
   rw[h2,QU,aaA] at this
   exact abn (m:=4000) (by have:z7 ls.length:=kL;unfold z7 at this;omega) (by decide)
  ·have e:putK (zk ((ls.take i).map (·.nm)) ds) (nk l.nm) (V.ref d)=zk ((ls.take (i+1)).map (·.nm)) (ds++[d]):=by
    rw[take_snoc hl,aar]
    show _=zk (_++[l.nm]) _
    rw[FV _ _ h2.symm]
    refine C6 _ ?_
    exact DG (by rw[BS h2.symm];exact λz=>zK (rQ.mp z))
   rw[e]
   refine⟨_,ds++[d],rfl,s4.upd hp,a_,?_,?_,?_⟩
   ·rw[take_snoc hl,aar,Vh,Vh,h2];rfl
   ·rw[aa5]
    exact⟨h3,by simp,λx hx y hy z=>KA (by rw[Sd.mp hy] at z;exact z▸hx)⟩
   ·intro x hx
    rcases YD.mp hx with hx|hx
    ·obtain⟨k1,k2,k3⟩:=h4 x hx
     refine⟨k1,k2,?_⟩
     rw[de k2,de (λz=>by rw[z] at hx;exact KA hx)]
     exact k3
    ·rw[Sd.mp hx]
     exact⟨s3.free hd,Wc,by rw[de Wc];exact a_⟩
 ·rintro Z H2 ⟨v0,ds,rfl,s3,h1,h2,h3,h4⟩
  have el:(as.map V.ref).length=ls.length:=by rw[QU];exact hlen
  rw[el,aav] at h1 h2
  have T5:=h2.symm
  have Ax:∀n∈ls.map (·.nm),iA (zk (ls.map (·.nm)) ds) (nk n)=some (.ref (sY (ls.map (·.nm)) ds n)):=λn hn=>Jg T5 hn
  have Me:∀n∈ls.map (·.nm),∀m∈ls.map (·.nm),sY (ls.map (·.nm)) ds n=sY (ls.map (·.nm)) ds m->n=m:=λn hn m hm e=>Jh T5 h3 hn hm e
  have xQ:∀n∈ls.map (·.nm),H (sY (ls.map (·.nm)) ds n)=none/\sY (ls.map (·.nm)) ds n≠p/\H2 (sY (ls.map (·.nm)) ds n)=some (.dT []):=λn hn=>h4 _ (BU T5 hn)
  generalize sY (ls.map (·.nm)) ds=ad at Ax Me xQ
  have M3:=BS T5
  generalize zk (ls.map (·.nm)) ds=kvs at h1 Ax M3
  dsimp only [o3];refine NW ?_;intro _
  let Jv:=λ(i:Nat) (Z:St) (H3:Hp)=>∃(v:Option V)(sf:Nm->List Nm),Z=[rr a,rr p,v]/\gg H H3/\H3 p=some (.dT kvs)/\(∀n∈ls.map (·.nm),Ap H3 (ad n) (sf n))/\∀n,(sf n).Nodup/\(sf n).length<=2*i/\∀m,m∈sf n↔Sa (ls.take i) m n
  refine⟨_,rfl,a,rfl,⟨_,h_.of (s3 a _ ha)⟩,jy (K:=K) (a:=a) (xs:=as.map V.ref) Jv
   ⟨v0,λ_=>[],rfl,s3,h1,λn hn=>⟨[],(xQ n hn).2.2,rfl⟩,λn=>⟨abh,aaI _,λm=>⟨(λz=>by cases z),λ⟨x,hx,_⟩=>by rw[abU] at hx;cases hx⟩⟩⟩ (by rintro _ _ _ _ ⟨_,_,_,s3,_⟩;exact h_.of (s3 a _ ha)) ?_ ?_⟩
  ·rintro i v Z H3 hx ⟨v1,sf,rfl,s4,k1,k2,k3⟩
   obtain⟨b,hb,rfl⟩:=jR hx
   obtain⟨l,hl,dx,vn,vu,vl,g1,⟨t,rfl,g2⟩,g3,g4⟩:=il pa hb
   have hi:i<ls.length:=(List.getElem?_eq_some_iff.mp hl).1
   have hi4:i<4000:=aaw hi kL
   have uy:l.nm∈ls.map (·.nm):=Vi (Xj hl)
   have step:∀{H3:Hp} {sf:Nm->List Nm} {n m:Nm},gg H H3->H3 p=some (.dT kvs)->(∀n∈ls.map (·.nm),Ap H3 (ad n) (sf n))->n∈ls.map (·.nm)->∀dk,H3 (ad n)=some (.dT dk)->dk.map (·.1)=(sf n).map nk->
     gg H (upd H3 (ad n) (.dT (putK dk (nk m) (V.bl true))))/\upd H3 (ad n) (.dT (putK dk (nk m) (V.bl true))) p=some (.dT kvs)/\(∀x∈ls.map (·.nm),Ap (upd H3 (ad n) (.dT (putK dk (nk m) (V.bl true)))) (ad x) (if x=n then oa (sf n) m else sf x)):=λ{H3 sf n m} s4 k1 k2 hn dk hdk Wd=>by
    refine⟨s4.upd (xQ n hn).1,by rw[de (xQ n hn).2.1.symm];exact k1,λx hx=>?_⟩
    by_cases e:x=n
    ·subst e
     rw[aag rfl]
     exact⟨_,a_,vz Wd m _⟩
    ·rw[aac e]
     obtain⟨O3,e1,e2⟩:=k2 x hx
     exact⟨O3,by rw[de (λz=>e (Me x hx n hn z))];exact e1,e2⟩
   have T6:∀m n,Sa (ls.take (i+1)) m n↔Sa (ls.take i) m n\/(l.nm=n/\l.up=some m)\/(l.nm=m/\l.lo=some n):=λm n=>by rw[take_snoc hl];exact LC
   refine⟨λZ H4=>∃sf:Nm->List Nm,Z=[rr a,rr p,rr b]/\gg H H4/\H4 p=some (.dT kvs)/\(∀n∈ls.map (·.nm),Ap H4 (ad n) (sf n))/\∀n,(sf n).Nodup/\(sf n).length<=2*i+1/\∀m,m∈sf n↔Sa (ls.take i) m n\/(l.nm=n/\l.up=some m),?_,?_⟩
   ·refine⟨_,rfl,b,A.hX,dx,_,_,rfl,s4 _ _ g1,O.iO,O.iD,EV,_,rfl,?_⟩
    cases hu:l.up with
    | none=>
     rw[hu] at g3
     rw[show vu=V.jb from g3]
     exact⟨sf,rfl,s4,k1,k2,λn=>⟨(k3 n).1,by have:=(k3 n).2.1;omega,λm=>by rw[(k3 n).2.2 m];exact⟨.inl,λz=>z.elim id λz=>by cases z.2⟩⟩⟩
    | some u=>
     rw[hu] at g3
     obtain⟨tu,rfl,gu⟩:=(show kI H vu u from g3)
     obtain⟨dk,e1,e2⟩:=k2 l.nm uy
     have Sf:dk.length=(sf l.nm).length:=by have:=aaQ List.length e2;rwa [QU,QU] at this
     refine⟨_,rfl,_,rfl,b,A.hX,dx,_,_,rfl,s4 _ _ g1,O.iO,O.hZ,i0,p,.ref (ad l.nm),rfl,?_,_,rfl,b,A.hX,dx,_,_,rfl,s4 _ _ g1,O.iO,O.iD,EV,ad l.nm,_,rfl,mB.t (k:=nk u) e1 (s4 _ _ gu) (abn (m:=8000) (by have:=(k3 l.nm).2.1;omega) (by decide)),?_⟩
     ·have:=jg.t (k:=nk l.nm) k1 (s4 _ _ g2)
      rw[Ax _ uy] at this
      exact this
     ·obtain⟨z1,z2,z3⟩:=step (m:=u) s4 k1 k2 uy dk e1 e2
      refine⟨λx=>if x=l.nm then oa (sf l.nm) u else sf x,rfl,z1,z2,z3,λn=>?_⟩
      obtain⟨y1,y2,y3⟩:=k3 n
      show(if n=l.nm then oa (sf l.nm) u else sf n).Nodup/\(if n=l.nm then oa (sf l.nm) u else sf n).length<=_/\∀m,m∈(if n=l.nm then oa (sf l.nm) u else sf n)↔_
      by_cases e:n=l.nm
      ·subst e
       rw[aag rfl]
       have:=DH (l:=sf l.nm) (m:=u)
       refine⟨yk y1,by omega,λm=>?_⟩
       rw[rR,y3 m]
       exact⟨λz=>z.elim .inl λz=>.inr ⟨rfl,by rw[z]⟩,λz=>z.elim .inl λz=>.inr (aal z.2).symm⟩
      ·rw[aac e]
       refine⟨y1,by omega,λm=>?_⟩
       rw[y3 m]
       exact⟨.inl,λz=>z.elim id λz=>absurd z.1.symm e⟩
   ·rintro Z H4 ⟨Gn,rfl,s5,k4,k5,k6⟩
    have fin:∀(O4:Nm->List Nm)(n:Nm),((O4 n).Nodup/\(O4 n).length<=2*i+2/\∀m,m∈O4 n↔(Sa (ls.take i) m n\/(l.nm=n/\l.up=some m))\/(l.nm=m/\l.lo=some n))->(O4 n).Nodup/\(O4 n).length<=2*(i+1)/\∀m,m∈O4 n↔Sa (ls.take (i+1)) m n:=λO4 n ⟨z1,z2,z3⟩=>
     ⟨z1,by omega,λm=>by rw[z3 m,T6 m n,or_assoc]⟩
    refine⟨_,rfl,b,A.hX,dx,_,_,rfl,s5 _ _ g1,O.iO,O.iE,EW,_,rfl,?_⟩
    cases hu:l.lo with
    | none=>
     rw[hu] at g4
     rw[show vl=V.jb from g4]
     refine⟨_,Gn,rfl,s5,k4,k5,λn=>fin Gn n ⟨(k6 n).1,by have:=(k6 n).2.1;omega,λm=>?_⟩⟩
     rw[(k6 n).2.2 m,hu]
     exact⟨.inl,λz=>z.elim id λz=>by cases z.2⟩
    | some d=>
     have KA:d∈ls.map (·.nm):=(cl l (Xj hl)).2 d hu
     rw[hu] at g4
     obtain⟨td,rfl,gd⟩:=(show kI H vl d from g4)
     obtain⟨dk,e1,e2⟩:=k5 d KA
     have Sf:dk.length=(Gn d).length:=by have:=aaQ List.length e2;rwa [QU,QU] at this
     refine⟨_,rfl,_,rfl,b,A.hX,dx,_,_,rfl,s5 _ _ g1,O.iO,O.iE,EW,p,.ref (ad d),rfl,?_,_,rfl,b,A.hX,dx,_,_,rfl,s5 _ _ g1,O.iO,O.hZ,i0,ad d,_,rfl,mB.t (k:=nk l.nm) e1 (s5 _ _ g2) (abn (m:=8001) (by have:=(k6 d).2.1;omega) (by decide)),?_⟩
     ·have:=jg.t (k:=nk d) k4 (s5 _ _ gd)
      rw[Ax _ KA] at this
      exact this
     ·obtain⟨z1,z2,z3⟩:=step (m:=l.nm) s5 k4 k5 KA dk e1 e2
      refine⟨_,λx=>if x=d then oa (Gn d) l.nm else Gn x,rfl,z1,z2,z3,λn=>fin (λx=>if x=d then oa (Gn d) l.nm else Gn x) n ?_⟩
      obtain⟨y1,y2,y3⟩:=k6 n
      show(if n=d then oa (Gn d) l.nm else Gn n).Nodup/\(if n=d then oa (Gn d) l.nm else Gn n).length<=_/\∀m,m∈(if n=d then oa (Gn d) l.nm else Gn n)↔_
      by_cases e:n=d
      ·subst e
       rw[aag rfl]
       have:=DH (l:=Gn n) (m:=l.nm)
       refine⟨yk y1,by omega,λm=>?_⟩
       rw[rR,y3 m,hu]
       exact⟨λz=>z.elim .inl λz=>.inr ⟨z.symm,rfl⟩,λz=>z.elim .inl λz=>.inr z.1.symm⟩
      ·rw[aac e]
       refine⟨y1,by omega,λm=>?_⟩
       rw[y3 m,hu]
       exact⟨.inl,λz=>z.elim id λz=>absurd (aal z.2).symm e⟩
  ·rintro Z H3 ⟨v1,sf,rfl,s4,k1,k2,k3⟩
   rw[QU,hlen] at k3
   exact⟨_,rfl,q p _ ad sf s4 hp (λn hn=>(xQ n hn).1) ⟨⟨kvs,k1,Ax,M3⟩,Me,k2⟩ λn=>⟨(k3 n).1,λm=>by rw[(k3 n).2.2 m,aav]⟩⟩
theorem kI.upd{H:Hp}{v:V}{n:Nm}{x:Addr}{o o':HO}(h:kI H v n)(hx:H x=some o')(ht:∀xs,o'≠.tup xs):kI (L2.upd H x o) v n:=by
 obtain⟨t,e,Md⟩:=h
 exact⟨t,e,by rw[de (jc Md hx (λz=>ht _ z.symm))];exact Md⟩
theorem rS{dk:List (List Key×V)}{l:List Nm}(h:dk.map (·.1)=l.map nk):dk.length=l.length:=by
 have:=aaQ List.length h
 rwa [QU,QU] at this
theorem DI{dk:List (List Key×V)}{l:List Nm}(h:dk.map (·.1)=l.map nk){i:Nat}{k:List Key}{v:V}(hi:dk[i]?=some (k,v)):∃n,l[i]?=some n/\k=nk n:=by
 have h1:(dk.map (·.1))[i]?=some k:=by rw[YI,hi];rfl
 rw[h,YI] at h1
 obtain⟨n,e,e2⟩:=Option.map_eq_some_iff.mp h1
 exact⟨n,e,e2.symm⟩
theorem keys_has{dk:List (List Key×V)}{l:List Nm}(h:dk.map (·.1)=l.map nk)(n:Nm):(iA dk (nk n)).isSome=decide (n∈l):=by
 by_cases m:n∈l
 ·rw[V7 m];exact sG.mpr (by rw[h];exact rQ.mpr m)
 ·rw[aai m,abF];exact λz=>m (rQ.mp (by rw[<-h];exact sG.mp z))
theorem DJ:∀(more:List (List Key×V))(dk:List (List Key×V))(l r:List Nm),dk.map (·.1)=l.map nk->more.map (·.1)=r.map nk->l.Nodup->∃l':List Nm,(putAll dk more).map (·.1)=l'.map nk/\l'.Nodup/\∀m,m∈l'↔m∈l\/m∈r
 | [],dk,l,r,h1,h2,nd=>by
  have:r=[]:=by cases r with|nil=>rfl|cons _ _=>cases h2
  subst this
  exact⟨l,h1,nd,λm=>by simp⟩
 | p::t,dk,l,r,h1,h2,nd=>by
  cases r with
  | nil=>cases h2
  | cons x r=>
   rw[aat,aat] at h2
   injection h2 with e1 e2
   rw[qZ,e1]
   obtain⟨l',z1,z2,z3⟩:=DJ t (putK dk (nk x) p.2) (oa l x) r (vz h1 x _) e2 (yk nd)
   refine⟨l',z1,z2,λm=>?_⟩
   rw[z3 m,rR,V9,or_assoc]
def Og:Sp:=λvs H Q _=>∃(d a:Addr)(xs:List Nm)(ka:List (List Key×V))(af:Nm->List Nm),vs=[.ref d,.ref a]/\Ap H d xs/\d≠a/\H a=some (.dT ka)/\(∀x∈xs,∃b,iA ka (nk x)=some (.ref b)/\b≠d/\Ap H b (af x))/\xs.length<=4000/\(∀x∈xs,(af x).length<=4000)/\
 ∀p H' rs,gg H H'->H p=none->Ap H' p rs->rs.Nodup->(∀m,m∈rs↔∃x∈xs,m=x\/m∈af x)->Q (.ref p) H'
theorem G6(T:Txt mg)(O:Ok K mg A):iq P w K mg base lN 1 A.Dx A.Dy ["names","ahead"] Og:=by
 refine O.joined.f.pR wj λjv A0 outer s H vs Q E hr h=>?_
 obtain⟨d,a,xs,ka,af,rfl,⟨kd,hd,hk⟩,hda,ha,hb,hx4,haf,q⟩:=h
 refine⟨_,(c_ (lg 2 wj lu)
   (c_ (By (iI aap rfl (yU (pv 0)) (uc 3 wj) (c_ (jd (by exact iS hr) (pv 2) (pv 3) mz rfl)
   (eV (iu (IJ (by exact iS hr) (pv 2) (Af hr (pv 1) (pv 3)) ⟨rfl,rfl,rfl,rfl⟩))))))
   (eV (ia (pv 2))))),?_⟩
 refine Em ?_;intro _ _
 intro p hp
 have Sg:p≠d:=(gc hd hp).symm
 have Sh:p≠a:=(gc ha hp).symm
 refine⟨_,rfl,d,kd,rfl,by rw[de Sg.symm];exact hd,λo uz=>?_⟩
 have Mf:=rS hk
 let Jv:=λ(i:Nat) (Z:St) (H2:Hp)=>∃(v:Option V)(kf:List (List Key×V))(rs:List Nm),Z=[rr d,rr a,rr p,v]/\(∀b o,H b=some o->b≠d->H2 b=some o)/\H2 d=some (.oh o (.dT kd))/\H2 p=some (.dT kf)/\kf.map (·.1)=rs.map nk/\rs.Nodup/\kf.length<=i*4001/\∀m,m∈rs↔∃x∈xs.take i,m=x\/m∈af x
 refine AX (d:=d) (o:=o) (kvs:=kd) Jv
  ⟨none,[],[],rfl,λb o e nb=>by rw[de nb,de (gc e hp)];exact e,a_,by rw[de Sg];exact a_,rfl,abh,by simp,λm=>by simp⟩ (by rintro _ _ _ ⟨_,_,_,_,_,e,_⟩;exact e) ?_ ?_
 ·rintro i k v t Z H2 hi ht ⟨v0,kf,rs,rfl,h1,h2,h3,h4,h5,h6,h7⟩
  obtain⟨x,hx,rfl⟩:=DI hk hi
  have Zd:x∈xs:=Xj hx
  have yq:i<xs.length:=(List.getElem?_eq_some_iff.mp hx).1
  obtain⟨b,e1,e2,kb,e3,e4⟩:=hb x Zd
  have Ze:b≠p:=gc e3 hp
  have MX:=rS e4
  have hb4:=haf x Zd
  have htp:t≠p:=λz=>by rw[z,h3] at ht;cases ht
  have hl:=iQ kf (nk x) (V.bl true)
  have sz:sizeLine=16777216:=aaE
  have hmul:i*4001<=4000*4001:=Nat.mul_le_mul_right _ (by omega)
  refine⟨_,rfl,_,rfl,p,_,rfl,mB.t (k:=nk x) h3 ht (by omega),?_⟩
  have qt:putK kf (nk x) (V.bl true)≠[]:=λz=>by
   have:=vz h4 x (V.bl true)
   rw[z] at this
   have hm:x∈oa rs x:=rR.mpr (.inr rfl)
   cases hq:oa rs x with
   | nil=>rw[hq] at hm;cases hm
   | cons _ _=>rw[hq] at this;cases this
  refine⟨_,rfl,p,rfl,.inr ⟨_,.inl a_⟩,_,rfl,_,rfl,a,.ref b,rfl,?_,b,_,kb,rfl,a_,.inl (by rw[de Ze];exact h1 _ _ e3 e2),Ze.symm,qt,by omega,?_⟩
  ·have:=jg.t (H:=L2.upd H2 p (.dT (putK kf (nk x) (V.bl true)))) (k:=nk x) (by rw[de Sh.symm];exact h1 a _ ha hda.symm) (b:=t) (by rw[de htp];exact ht)
   rw[e1] at this
   exact this
  ·obtain⟨l',z1,z2,z3⟩:=DJ kb _ (oa rs x) (af x) (vz h4 x (V.bl true)) e4 (yk h5)
   refine⟨_,_,l',rfl,λb o e nb=>?_,?_,a_,z1,z2,?_,λm=>?_⟩
   ·rw[de (gc e hp),de (gc e hp)];exact h1 b o e nb
   ·rw[de Sg.symm,de Sg.symm];exact h2
   ·have:=pY kb (putK kf (nk x) (V.bl true))
    have:(i+1)*4001=i*4001+4001:=Nat.succ_mul _ _
    omega
   ·rw[z3 m,rR,h7 m,take_snoc hx]
    constructor
    ·rintro((⟨y,hy,z⟩|z)|z)
     ·exact⟨y,aan _ hy,z⟩
     ·exact⟨x,by simp,.inl z⟩
     ·exact⟨x,by simp,.inr z⟩
    ·rintro⟨y,hy,z⟩
     rcases YD.mp hy with hy|hy
     ·exact .inl (.inl ⟨y,hy,z⟩)
     ·rw[Sd.mp hy] at z
      exact z.elim (λz=>.inl (.inr z)) .inr
 ·rintro Z H2 ⟨v0,kf,rs,rfl,h1,h2,h3,h4,h5,h6,h7⟩
  rw[Mf,aav] at h7
  refine⟨d,o,_,h2,uz,_,rfl,q p _ rs (λb u e=>?_) hp ⟨kf,by rw[de Sg];exact h3,h4⟩ h5 h7⟩
  by_cases We:b=d
  ·subst We;rw[a_];rw[hd] at e;exact e
  ·rw[de We];exact h1 b u e We
structure oU(ls:List Ln)(H1 H:Hp)(h:Addr)(S:List Nm)(af:Nm->List Nm):Prop where
 ex:∃kvs,H h=some (.dT kvs)/\kvs.map (·.1)=S.map nk/\∀n∈S,∃b,iA kvs (nk n)=some (.ref b)/\b≠h/\H1 b=none/\Ap H b (af n)
 nd:S.Nodup
 good:∀n∈S,n∈ls.map (·.nm)/\(af n).Nodup/\∀m,m∈af n↔Ah ls m n
theorem oU.same{ls:List Ln}{H1 H H':Hp}{h:Addr}{S:List Nm}{af:Nm->List Nm}(x:oU ls H1 H h S af)(s:gg H H'):oU ls H1 H' h S af:=by
 obtain⟨⟨kvs,e1,e2,e3⟩,nd,g⟩:=x
 refine⟨⟨kvs,s _ _ e1,e2,λn hn=>?_⟩,nd,g⟩
 obtain⟨b,z1,z2,z3,dk,z4,z5⟩:=e3 n hn
 exact⟨b,z1,z2,z3,dk,s _ _ z4,z5⟩
theorem oU.lst{ls:List Ln}{H1 H:Hp}{h c:Addr}{S:List Nm}{af:Nm->List Nm}{xs:List V}{o:HO}(x:oU ls H1 H h S af)(hc:H c=some (.lst xs)):oU ls H1 (L2.upd H c o) h S af:=by
 obtain⟨⟨kvs,e1,e2,e3⟩,nd,g⟩:=x
 refine⟨⟨kvs,by rw[de (jc e1 hc (λz=>by cases z))];exact e1,e2,λn hn=>?_⟩,nd,g⟩
 obtain⟨b,z1,z2,z3,dk,z4,z5⟩:=e3 n hn
 exact⟨b,z1,z2,z3,dk,by rw[de (jc z4 hc (λz=>by cases z))];exact z4,z5⟩
theorem FW{sf:Nm->List Nm}{B n:Nat}{st S:List Nm}(r:Run sf B n st S):st.length<=B:=by
 cases r with
 | nil=>exact aaI _
 | skip _ h _=>exact h
 | fin _ _ h _=>exact h
 | push _ _ h _=>exact h
theorem DK{Z Y:Type}{F:Z->Y->Prop}{vs:List Z}{xs:List Y}{x:Y}(p:Paired F vs (xs++[x])):∃T7 v,vs=T7++[v]/\Paired F T7 xs/\F v x:=by
 induction xs generalizing vs with
 | nil=>
  cases p with
  | cons f t=>cases t;exact⟨[],_,rfl,.nil,f⟩
 | cons y r ih=>
  cases p with
  | cons f t=>
   obtain⟨T7,v,rfl,h1,h2⟩:=ih t
   exact⟨_::T7,v,rfl,.cons f h1,h2⟩
def BV(H:Hp)(p:Addr)(ls:List Ln):Prop:=∃kvs,H p=some (.dT kvs)/\∀n∈ls.map (·.nm),∃b dk,iA kvs (nk n)=some (.ref b)/\H b=some (.dT dk)/\∀m,(iA dk (nk m)).isSome=true↔Ah ls m n
theorem BV.same{H H':Hp}{p:Addr}{ls:List Ln}(x:BV H p ls)(s:gg H H'):BV H' p ls:=by
 obtain⟨kvs,e1,e2⟩:=x
 refine⟨kvs,s _ _ e1,λn hn=>?_⟩
 obtain⟨b,dk,z1,z2,z3⟩:=e2 n hn
 exact⟨b,dk,z1,s _ _ z2,z3⟩
def Q3(A:Ad):Sp:=λvs H Q _=>∃(a:Addr)(ls:List Ln),vs=[.ref a]/\pO A H a ls/\z7 ls.length/\(ls.map (·.nm)).Nodup/\p0 ls/\IU ls/\∀p H',gg H H'->H p=none->BV H' p ls->Q (.ref p) H'
theorem BW(T:Txt mg)(O:Ok K mg A):iq P w K mg base lN 2 A.xr A.xt ["lines"] (Q3 A):=by
 have wQ:=@vA P w K mg base A T O
 have J4:=@G6 P w K mg base A T O
 refine O.A1.f.pR jD λjv A0 outer s H vs Q E hr h=>?_
 obtain⟨a,ls,rfl,la,kL,nd,cl,tp,q⟩:=h
 obtain⟨as,ha,pa⟩:=id la
 have hlen:=aaj pa
 have Ec:ls.length<=4000:=kL
 refine⟨_,(c_ (lg 1 jD (n_ O.rH wQ hr (ak (pv 0) d_)))
   (c_ (lU (i:=2) jD.nd rfl (Or.inr rfl) lu)
   (c_ (iI aap rfl (iH (pv 0)) (uc 3 jD) (c_ (lg 4 jD (ji (ak (hU (pv 3) rfl) d_)))
   (eV (yv aap (uD (pv 4) (λ_=>rfl)) (c_ (lg 5 jD (H_ aaq PySem.F.slot_list_pop PySem.F.type_list_pop NI (pv 4)))
   (c_ (iJ (jw (pV (by exact iS hr) (pv 5) (pv 2))) (eV (CU)) ie)
   (c_ (By (Bw (j:=6) xk (f_ oy).names [7] jD.nd rfl rfl rfl (yU (Af hr (pv 1) (pv 5))) rfl (by decide+kernel) (λ_ _ _ _=>(iK (i:=7) jD.nd rfl (Or.inl rfl))) (λ_ _ _ _=>⟨_,oO (jw (o5 (by exact iS hr) (pv 7) (pv 2))),by(try simp only [kR]);rfl⟩) (λ_ _ _ _=>Bz (pv 7))))
   (eV (iJ (uD (pv 6) (λ_=>rfl)) (c_ (iu (k7 aaq aax aay iP (pv 4) (ak (pv 5) d_)))
   (eV (iu (k7 aaq PySem.F.slot_list_extend PySem.F.type_list_extend AJ (pv 4) (ak (pv 6) d_))))) (eV (jd (by exact iS hr) (pv 2) (pv 5) (n_ O.joined J4 hr (ak (Af hr (pv 1) (pv 5)) (ak (pv 2) d_))) rfl)))))))))))
   (eV (ia (pv 2)))))),?_⟩
 refine PJ ?_;intro _ _ _
 refine⟨_,rfl,a,ls,rfl,la,kL,nd,cl,λst H1 ad sf s1 hst0 had0 Fn O5=>?_⟩
 obtain⟨⟨kst,Si,Sj,hst3⟩,Me,Wd⟩:=Fn
 have hN:(1+ls.length*ls.length)<=16000001:=by have:=Nat.mul_le_mul Ec Ec;omega
 have sz:sizeLine=16777216:=aaE
 have Sk:∀n,(sf n).length<=4000:=λn=>by
  have:=len_sub (ys:=ls.map (·.nm)) (O5 n).1 λy hy=>(cl.sa (((O5 n).2 y).mp hy)).1
  rw[QU] at this;omega
 intro h hh
 have s2:gg H1 (L2.upd H1 h (.dT [])):=(gg.refl H1).new hh
 dsimp only [o3];refine NW ?_;intro _
 let Jv:=λ(i:Nat) (Z:St) (H2:Hp)=>∃(v3 v4 v5 v6:Option V)(S:List Nm)(af:Nm->List Nm),Z=[rr a,rr st,rr h,v3,v4,v5,v6,none]/\gg H1 H2/\oU ls H1 H2 h S af/\∀l∈ls.take i,l.nm∈S
 refine⟨_,rfl,a,rfl,⟨_,h_.of (s2 _ _ (s1 _ _ ha))⟩,jy (K:=K) (a:=a) (xs:=as.map V.ref) Jv
  ⟨none,none,none,none,[],λ_=>[],rfl,s2,⟨⟨[],a_,rfl,λn hn=>by cases hn⟩,abh,λn hn=>by cases hn⟩,λl hl=>by rw[abU] at hl;cases hl⟩ (by rintro _ _ _ _ ⟨_,_,_,_,_,_,_,s3,_⟩;exact h_.of (s3 _ _ (s1 _ _ ha))) ?_ ?_⟩
 ·rintro i v Z H2 hx ⟨v3,v4,v5,v6,S0,af0,rfl,s3,D0,hS0⟩
  obtain⟨b,hb,rfl⟩:=jR hx
  obtain⟨l,hl,dx,vn,vu,vl,g1,⟨t0,rfl,g2⟩,g3,g4⟩:=il pa hb
  have uy:l.nm∈ls.map (·.nm):=Vi (Xj hl)
  refine⟨_,rfl,b,A.hX,dx,_,_,rfl,s3 _ _ (s1 _ _ g1),O.iO,O.hZ,i0,L2.kL,λc hc=>?_⟩
  have Wf:H1 c=none:=s3.free hc
  have s4:gg H1 (L2.upd H2 c (.lst [.ref t0])):=s3.new hc
  obtain⟨n0,r0⟩:=IV cl tp O5 l.nm S0
  refine⟨λm Z H3=>∃(v5 v6:Option V)(sk S:List Nm)(af:Nm->List Nm)(cv:List V),Z=[rr a,rr st,rr h,rr b,rr c,v5,v6,none]/\Run sf (1+ls.length*ls.length) m sk S/\gg H1 H3/\H3 c=some (.lst cv)/\Paired (kI H3) cv sk.reverse/\oU ls H1 H3 h S af/\(∀y∈sk,y∈ls.map (·.nm))/\(l.nm∈sk\/l.nm∈S)/\(∀y∈S0,y∈S),
   ⟨n0,v5,v6,[l.nm],S0,af0,[.ref t0],rfl,r0,s4,a_,.cons ⟨t0,rfl,s4 _ _ (s1 _ _ g2)⟩ .nil,D0.same ((gg.refl H2).new hc),λy hy=>by rw[Sd.mp hy];exact uy,.inl (by simp),λ_ z=>z⟩,?_⟩
  rintro m Z H3 ⟨v5,v6,sk,S,af,cv,rfl,run,s5,O6,Wg,D,Wh,MT,hS⟩
  cases sk with
  | nil=>
   have:cv=[]:=by cases Wg;rfl
   subst this
   refine⟨_,rfl,false,.inl ⟨_,h_.of O6,rfl⟩,j_ ?_⟩
   refine⟨_,_,_,_,S,af,rfl,s5,D,λy hy=>?_⟩
   rw[take_snoc hl] at hy
   rcases YD.mp hy with hy|hy
   ·exact hS _ (hS0 y hy)
   ·rw[Sd.mp hy]
    exact MT.elim (λz=>by cases z) id
  | cons x sk=>
   rw[acn] at Wg
   obtain⟨HG,vx,rfl,Sl,t,rfl,ht⟩:=DK Wg
   have T8:x∈ls.map (·.nm):=Wh x aae
   have Sm:∀y∈sk,y∈ls.map (·.nm):=λy hy=>Wh y (YE _ hy)
   have M0:HG.length=sk.length:=by have:=aaj Sl;rwa [abk] at this
   refine⟨_,rfl,true,.inl ⟨_,h_.of O6,by simp⟩,oM ?_⟩
   obtain⟨n,hn,run'⟩:∃n,m=n+1/\(x∈S/\Run sf (1+ls.length*ls.length) n sk S\/x∉S/\Dg sf S x=[]/\Run sf (1+ls.length*ls.length) n sk (S++[x])\/x∉S/\Dg sf S x≠[]/\Run sf (1+ls.length*ls.length) n ((Dg sf S x).reverse++x::sk) S):=by
    cases run with
    | skip z1 _ z2=>exact⟨_,rfl,.inl ⟨z1,z2⟩⟩
    | fin z1 z2 _ z3=>exact⟨_,rfl,.inr (.inl ⟨z1,z2,z3⟩)⟩
    | push z1 z2 _ z3=>exact⟨_,rfl,.inr (.inr ⟨z1,z2,z3⟩)⟩
   have VW:sk.length+1<=16000001:=by have:=FW run;rw[W7] at this;omega
   subst hn
   refine⟨λZ H4=>∃(v5 v6:Option V)(sk S:List Nm)(af:Nm->List Nm)(cv:List V),Z=[rr a,rr st,rr h,rr b,rr c,v5,v6,none]/\Run sf (1+ls.length*ls.length) n sk S/\gg H1 H4/\H4 c=some (.lst cv)/\Paired (kI H4) cv sk.reverse/\oU ls H1 H4 h S af/\(∀y∈sk,y∈ls.map (·.nm))/\(l.nm∈sk\/l.nm∈S)/\(∀y∈S0,y∈S),λZ' H' z=>⟨n,abA n,z⟩,?_⟩
   refine⟨_,rfl,.inl ⟨rfl,_,h_.of O6⟩,c,_,.ref t,rfl,rfl,O6,by simp,?_⟩
   rw[List.dropLast_concat]
   have D4:oU ls H1 (L2.upd H3 c (.lst HG)) h S af:=D.lst O6
   have s6:gg H1 (L2.upd H3 c (.lst HG)):=s5.upd Wf
   have p4:Paired (kI (L2.upd H3 c (.lst HG))) HG sk.reverse:=Paired.j0 Sl λ_ _ z=>z.upd O6 (λ_ z=>by cases z)
   have J6:L2.upd H3 c (.lst HG) t=some (nT x):=by rw[de (jc ht O6 (λz=>by cases z))];exact ht
   have P7:L2.upd H3 c (.lst HG) c=some (.lst HG):=a_
   generalize L2.upd H3 c (.lst HG)=H4 at D4 s6 p4 J6 P7 ⊢
   obtain⟨⟨kvs,e1,e2,e3⟩,O7,good⟩:=id D4
   refine⟨_,rfl,_,rfl,h,_,rfl,jg.t (k:=nk x) e1 J6,_,rfl,?_⟩
   rw[keys_has e2 x]
   rcases run' with⟨P8,r⟩|M4
   ·rw[V7 P8]
    refine oM ⟨_,_,sk,S,af,HG,rfl,r,s6,P7,p4,D4,Sm,?_,hS⟩
    exact MT.elim (λz=>(V9.mp z).elim (λz=>.inr (z▸P8)) .inl) .inr
   ·have P8:x∉S:=M4.elim (·.1) (·.1)
    rw[aai P8]
    refine j_ ?_
    obtain⟨dk,Wi,hd2⟩:=Wd x T8
    have Wj:=s6 _ _ Wi
    have Sn:ad x≠h:=gc Wi hh
    refine⟨_,rfl,_,rfl,st,.ref (ad x),rfl,?_,ad x,dk,rfl,Wj,λo uz=>?_⟩
    ·have:=jg.t (k:=nk x) (s6 _ _ Si) J6
     rw[Sj x T8] at this
     exact this
    have Wk:∀{y:Addr} {u:HO},y≠ad x->H4 y=some u->L2.upd H4 (ad x) (.oh o (.dT dk)) y=some u:=λny e=>by rw[de ny];exact e
    refine IF (d:=ad x) (o:=o) (kvs:=dk) (by rw[rS hd2];exact aao (Sk x) (by decide)) (λi ys Z H5=>∃(v7:Option V),Z=[rr a,rr st,rr h,rr b,rr c,rr t,v6,v7]/\H5=L2.upd H4 (ad x) (.oh o (.dT dk))/\ys.length<=i/\Paired (kI (L2.upd H4 (ad x) (.oh o (.dT dk)))) ys (((sf x).take i).filter λy=>y∉S))
     ⟨none,rfl,rfl,Vb _,.nil⟩ (by rintro _ _ _ _ ⟨_,_,e,e4,_⟩;subst e;exact⟨a_,e4⟩) ?_ ?_
    ·rintro i k v tb ys Z H5 hi Wl ⟨v7,rfl,rfl,e4,e5⟩
     obtain⟨y,hy,rfl⟩:=DI hd2 hi
     refine⟨_,rfl,_,rfl,h,_,rfl,jg.t (k:=nk y) (Wk Sn.symm e1) Wl,_,rfl,?_⟩
     rw[keys_has e2 y,take_snoc hy,aaH]
     by_cases hm:y∈S
     ·rw[V7 hm]
      refine j_ ⟨_,rfl,rfl,by omega,?_⟩
      rw[aaf (by simpa using hm),aaX,aaJ]
      exact e5
     ·rw[aai hm]
      refine oM ⟨_,rfl,_,rfl,rfl,PR,?_⟩
      rw[aad (by simpa using hm),aaX]
      exact ix e5 ⟨tb,rfl,Wl⟩
    ·rintro ys Z H5 ⟨v7,rfl,rfl,e4,e5⟩ p hp
     rw[rS hd2,aav] at e5
     have Sh:p≠ad x:=λz=>by rw[z,a_] at hp;cases hp
     have So:H4 p=none:=by rw[de Sh] at hp;exact hp
     refine⟨ad x,o,_,by rw[de Sh.symm];exact a_,uz,?_⟩
     rw[FO Wj Sh]
     have pm:Paired (kI H4) ys (Dg sf S x):=Paired.j0 e5 λv y ⟨tb,e,z⟩=>⟨tb,e,by
      have:tb≠ad x:=λw=>by rw[w,a_] at z;cases z
      rwa [de this] at z⟩
     have s7:gg H4 (L2.upd H4 p (.lst ys)):=(gg.refl H4).new So
     have Zf:ys.length=(Dg sf S x).length:=aaj pm
     refine⟨_,rfl,!ys.isEmpty,.inl ⟨_,h_.of a_,rfl⟩,?_⟩
     rcases M4 with⟨_,T9,r⟩|⟨_,T9,r⟩
     ·
      have:ys=[]:=aas.mp (by rw[Zf,T9];rfl)
      subst this
      refine j_ ?_
      have Hy:=BB.mp T9
      refine⟨_,rfl,_,rfl,st,.ref (ad x),rfl,?_,_,rfl,ad x,h,sf x,kvs,af,rfl,⟨dk,s7 _ _ Wj,hd2⟩,Sn,s7 _ _ e1,λy hy=>?_,Sk x,λy hy=>?_,λp2 H6 rs s8 yp Gk P9 hm2=>?_⟩
      ·have:=jg.t (k:=nk x) (s7 _ _ (s6 _ _ Si)) (s7 _ _ J6)
       rw[Sj x T8] at this
       exact this
      ·obtain⟨bb,z1,z2,z3,O3,z4,z5⟩:=e3 y (Hy y hy)
       exact⟨bb,z1,(gc Wi z3).symm,O3,s7 _ _ z4,z5⟩
      ·obtain⟨z1,z2,z3⟩:=good y (Hy y hy)
       have:=len_sub (ys:=ls.map (·.nm)) z2 λm hm=>(cl.ah ((z3 m).mp hm)).1
       rw[QU] at this;omega
      ·have s9:=s7.trans s8
       have hSl:S.length<=4000:=by
        have:=len_sub (ys:=ls.map (·.nm)) O7 λm hm=>(good m hm).1
        rw[QU] at this;omega
       have e6:H6 h=some (.dT kvs):=s9 _ _ e1
       refine⟨_,rfl,_,rfl,h,_,rfl,mB.t (k:=nk x) e6 (s9 _ _ J6) (by rw[rS e2];omega),?_⟩
       have Sq:p2≠h:=(gc (s7 _ _ e1) yp).symm
       have Wm:H1 p2=none:=(s6.trans s7).free yp
       have key:putK kvs (nk x) (V.ref p2)=kvs++[(nk x,V.ref p2)]:=C6 _ (DG (by rw[e2];exact λz=>P8 (rQ.mp z)))
       have hhT:H1 h=none:=hh
       refine⟨_,_,sk,S++[x],λy=>if y=x then rs else af y,HG,rfl,r,(s6.trans s9).upd hhT,?_,?_,⟨⟨_,a_,?_,λy hy=>?_⟩,?_,λy hy=>?_⟩,Sm,?_,λy hy=>aan _ (hS y hy)⟩
       ·rw[de (jc (s9 _ _ P7) e6 (λz=>by cases z))];exact s9 _ _ P7
       ·exact Paired.j0 p4 λ_ _ z=>(z.same s9).upd e6 (λ_ z=>by cases z)
       ·rw[key,aar,e2,aar];rfl
       ·show ∃bb,iA (putK kvs (nk x) (V.ref p2)) (nk y)=some (V.ref bb)/\bb≠h/\H1 bb=none/\Ap _ bb (if y=x then rs else af y)
        rw[jq]
        by_cases e:y=x
        ·subst e
         rw[aag rfl,aag rfl]
         obtain⟨O3,w1,w2⟩:=Gk
         exact⟨p2,rfl,Sq,Wm,O3,by rw[de Sq];exact w1,w2⟩
        ·rw[aac (λz=>e (oT z)),aac e]
         have hyS:y∈S:=(YD.mp hy).elim id λz=>absurd (Sd.mp z) e
         obtain⟨bb,z1,z2,z3,O3,z4,z5⟩:=e3 y hyS
         exact⟨bb,z1,z2,z3,O3,by rw[de z2];exact s9 _ _ z4,z5⟩
       ·rw[aa5]
        exact⟨O7,by simp,λu hu w hw z=>P8 (by rw[Sd.mp hw] at z;have z:u=x:=z;exact z▸hu)⟩
       ·show y∈ls.map (·.nm)/\(if y=x then rs else af y).Nodup/\∀m,m∈(if y=x then rs else af y)↔Ah ls m y
        by_cases e:y=x
        ·subst e
         rw[aag rfl]
         refine⟨T8,P9,λm=>?_⟩
         rw[hm2 m,Ah.last]
         constructor
         ·rintro⟨u,hu,z⟩
          have T6:=((O5 y).2 u).mp hu
          rcases z with z|z
          ·exact .inl (z▸T6)
          ·exact .inr ⟨u,((good u (Hy u hu)).2.2 m).mp z,T6⟩
         ·rintro(z|⟨u,z1,z2⟩)
          ·exact⟨m,((O5 y).2 m).mpr z,.inl rfl⟩
          ·have hu:=((O5 y).2 u).mpr z2
           exact⟨u,hu,.inr (((good u (Hy u hu)).2.2 m).mpr z1)⟩
        ·rw[aac e]
         exact good y ((YD.mp hy).elim id λz=>absurd (Sd.mp z) e)
       ·exact MT.elim (λz=>(V9.mp z).elim (λz=>.inr (by rw[z];simp)) .inl) λz=>.inr (aan _ z)
     ·
      have hys:(!ys.isEmpty)=true:=by
       cases ys with
       | nil=>exact absurd (aas.mp Zf.symm) T9
       | cons _ _=>rfl
      refine yP hys ?_
      have Fs:=FW r
      rw[Vh,abk,W7] at Fs
      have T_:=s7 _ _ P7
      refine⟨_,rfl,.inl ⟨rfl,_,h_.of T_⟩,_,rfl,c,_,_,rfl,rfl,T_,by omega,?_⟩
      have hpc:p≠c:=(gc P7 So).symm
      refine⟨_,rfl,.inl ⟨rfl,_,h_.of a_⟩,_,rfl,c,p,_,_,rfl,rfl,a_,by rw[de hpc];exact a_,by rw[Vh];show HG.length+1+ys.length<=_;omega,?_⟩
      refine⟨_,_,(Dg sf S x).reverse++x::sk,S,af,_,rfl,r,((s6.trans s7).upd Wf).upd Wf,a_,?_,((D4.same s7).lst T_).lst a_,λy hy=>?_,?_,hS⟩
      ·rw[List.reverse_append,List.reverse_reverse,acn]
       refine Paired.j0 (F:=kI (L2.upd H4 p (.lst ys))) (um (ix (Paired.j0 p4 λ_ _ z=>z.same s7) ⟨t,rfl,s7 _ _ J6⟩) (Paired.j0 pm λ_ _ z=>z.same s7)) λ_ _ z=>?_
       exact(z.upd T_ (λ_ z=>by cases z)).upd a_ (λ_ z=>by cases z)
      ·rcases YD.mp hy with hy|hy
       ·have hy:=(aah.mp (List.mem_reverse.mp hy)).1
        exact(cl.sa (((O5 x).2 y).mp hy)).1
       ·exact Wh y hy
      ·exact MT.elim (λz=>.inl (aaG _ z)) .inr
 ·rintro Z H2 ⟨v3,v4,v5,v6,S,af,rfl,s3,⟨⟨kvs,e1,e2,e3⟩,O7,good⟩,hS⟩
  rw[QU,hlen,aav] at hS
  refine⟨_,rfl,q h _ (s1.trans s3) (s1.free hh) ⟨kvs,e1,λn hn=>?_⟩⟩
  obtain⟨l,hl,rfl⟩:=List.mem_map.mp hn
  obtain⟨bb,z1,z2,z3,dk,z4,z5⟩:=e3 _ (hS l hl)
  exact⟨bb,dk,z1,z4,λm=>by rw[sG,z5,rQ];exact(good _ (hS l hl)).2.2 m⟩
theorem Ji{Z:Type}[DecidableEq Z]:∀{kvs:List (Z×V)} {i:Nat} {k:Z} {v:V},(kvs.map (·.1)).Nodup->kvs[i]?=some (k,v)->iA kvs k=some v
 | [],_,_,_,_,h=>by simp at h
 | p::r,i,k,v,nd,h=>by
  rw[aat,aaY] at nd
  cases i with
  | zero=>simp at h;subst h;exact jh rfl
  | succ i=>
   have h:r[i]?=some (k,v):=by simpa using h
   have hm:k∈r.map (·.1):=List.mem_map.mpr ⟨_,Xj h,rfl⟩
   rw[i_ (λz=>nd.1 (by rw[z];exact hm))]
   exact Ji nd.2 h
theorem Jj{Z:Type}[DecidableEq Z](kvs:List (Z×V))(k j:Z)(h:j≠k):iA (kD kvs k) j=iA kvs j:=by
 induction kvs with
 | nil=>rfl
 | cons p r ih=>
  by_cases e:p.1=k
  ·rw[AO e,ih,i_ (λz=>h (z.symm.trans e))]
  ·rw[AQ e]
   by_cases e2:p.1=j
   ·rw[jh e2,jh e2]
   ·rw[i_ e2,i_ e2,ih]
theorem G7{kvs:List (List Key×V)}{rem:List Ln}{n:Nm}(h:kvs.map (·.1)=rem.map λl=>nk l.nm):(kD kvs (nk n)).map (·.1)=(rem.filter λo=>o.nm≠n).map λl=>nk l.nm:=by
 induction kvs generalizing rem with
 | nil=>cases rem with|nil=>rfl|cons _ _=>cases h
 | cons p r ih=>
  cases rem with
  | nil=>cases h
  | cons x t=>
   rw[aat,aat] at h
   injection h with h1 h2
   by_cases e:x.nm=n
   ·rw[AO (by rw[h1,e]),aaf (by simpa using e)]
    exact ih h2
   ·rw[AQ (λz=>e (oT (h1.symm.trans z))),aad (by simpa using e),aat,aat,ih h2,h1]
structure Wait(kw:List (List Key×V))(rem:List Ln)(f:Ln->Nat):Prop where
 keys:kw.map (·.1)=rem.map λl=>nk l.nm
 val:∀o∈rem,iA kw (nk o.nm)=some (.int (f o:Nat))
theorem Wait.len{kw:List (List Key×V)}{rem:List Ln}{f:Ln->Nat}(w:Wait kw rem f):kw.length=rem.length:=by
 have:=aaQ List.length w.keys
 rwa [QU,QU] at this
theorem Oh{rem:List Ln}:(rem.map λl=>nk l.nm)=(rem.map (·.nm)).map nk:=by rw[List.map_map];rfl
theorem Q4{xs:List Nm}(h:xs.Nodup):(xs.map nk).Nodup:=by
 induction xs with
 | nil=>exact abh
 | cons x r ih=>
  rw[aaY] at h
  rw[aat,aaY]
  exact⟨λz=>h.1 (rQ.mp z),ih h.2⟩
theorem Wait.nd{kw:List (List Key×V)}{rem:List Ln}{f:Ln->Nat}(w:Wait kw rem f)(h:(rem.map (·.nm)).Nodup):(kw.map (·.1)).Nodup:=by rw[w.keys,Oh];exact Q4 h
theorem Wait.get{kw:List (List Key×V)}{rem:List Ln}{f:Ln->Nat}(w:Wait kw rem f)(h:(rem.map (·.nm)).Nodup){i:Nat}{k:List Key}{v:V}(hi:kw[i]?=some (k,v)):∃o,rem[i]?=some o/\k=nk o.nm/\v=.int (f o:Nat):=by
 have h1:(kw.map (·.1))[i]?=some k:=by rw[YI,hi];rfl
 rw[w.keys,YI] at h1
 obtain⟨o,e,e2⟩:=Option.map_eq_some_iff.mp h1
 refine⟨o,e,e2.symm,?_⟩
 have h2:=Ji (w.nd h) hi
 rw[<-e2,w.val o (Xj e)] at h2
 exact(aal h2).symm
def Vl:Sp:=λvs H Q _=>∃(d:Addr)(kw:List (List Key×V))(rem:List Ln)(f:Ln->Nat)(l:Ln),vs=[.ref d]/\H d=some (.dT kw)/\Wait kw rem f/\(rem.map (·.nm)).Nodup/\rem.find? (λo=>f o ==0)=some l/\∀t,H t=some (nT l.nm)->Q (.ref t) H
theorem Aq(T:Txt mg)(O:Ok K mg A):iq P w K mg base lN 1 A.uZ A.u0 ["waiting"] Vl:=by
 refine O.zf.f.pR tE λjv A0 outer s H vs Q E hr h=>?_
 obtain⟨d,kw,rem,f,l,rfl,hd,W,nd,hf,q⟩:=h
 refine⟨_,(c_ (By (iI aap rfl (yU (pv 0)) (uc 1 tE) (eV (iJ (ij lh (Af hr (pv 0) (pv 1)) e_ (iy _)) (eV (ia (pv 1))) ie))))
   (eV (ia vM))),?_⟩
 refine Kt ?_;intro _
 refine⟨_,rfl,d,kw,rfl,hd,λo uz=>?_⟩
 let Jv:=λ(i:Nat) (Z:St) (H2:Hp)=>∃(v:Option V),Z=[rr d,v]/\H2=L2.upd H d (.oh o (.dT kw))/\(rem.drop i).find? (λo=>f o ==0)=some l
 refine AX (d:=d) (o:=o) (kvs:=kw) Jv ⟨none,rfl,rfl,hf⟩ (by rintro _ _ _ ⟨_,_,e,_⟩;subst e;exact a_) ?_ ?_
 ·rintro i k v t Z H2 hi ht ⟨v0,rfl,rfl,h1⟩
  obtain⟨x,hx,rfl,rfl⟩:=W.get nd hi
  have j9:i<rem.length:=(List.getElem?_eq_some_iff.mp hx).1
  have hdr:rem.drop i=x::rem.drop (i+1):=by rw[aaU j9];congr 1;exact(List.getElem?_eq_some_iff.mp hx).2
  rw[hdr] at h1
  refine⟨_,rfl,_,rfl,d,_,rfl,.inr ⟨kw,nk x.nm,t,.inr ⟨o,a_⟩,rfl,ht,(W.val x (Xj hx)).symm⟩,rfl,_,rfl,?_⟩
  refine lb (λh=>?_) (λh=>?_)
  ·have h:f x=0:=by have:=V.int.inj (aau h);omega
   rw[List.find?_cons_of_pos (by simpa using h)] at h1
   cases h1
   refine⟨_,rfl,d,o,_,a_,uz,?_⟩
   rw[GQ hd]
   exact q t (by
    have:t≠d:=λz=>by rw[z,a_] at ht;cases ht
    rwa [de this] at ht)
  ·have h:¬f x=0:=λz=>h (V7 (by rw[z];rfl))
   rw[List.find?_cons_of_neg (by simpa using h)] at h1
   exact⟨_,rfl,rfl,h1⟩
 ·rintro Z H2 ⟨v0,rfl,rfl,h1⟩
  rw[W.len,acq] at h1
  cases h1
end
section
open Classical
noncomputable def oe(lt:Nm->Nm->Prop)(rem:List Ln)(l:Ln):Nat:=(rem.filter λo=>decide (lt o.nm l.nm)).length
theorem Jk(lt:Nm->Nm->Prop)(rem:List Ln):(λo=>oe lt rem o ==0)=free lt rem:=by
 funext o
 unfold oe free
 rw[abI,abN,aas,List.filter_eq_nil_iff,abe]
 exact⟨λh x hx=>by simpa using h x hx,λh x hx=>by simpa using h x hx⟩
theorem Jl{lt:Nm->Nm->Prop}{rem:List Ln}(nd:(rem.map (·.nm)).Nodup){l:Ln}(hl:l∈rem)(o:Ln):oe lt rem o=oe lt (rem.filter λx=>x.nm≠l.nm) o+if lt l.nm o.nm then 1 else 0:=by
 unfold oe
 induction rem with
 | nil=>cases hl
 | cons x r ih=>
  rw[aat,aaY] at nd
  rcases V9.mp hl with rfl|hl
  ·have e:r.filter (λx=>decide (x.nm≠l.nm))=r:=List.filter_eq_self.mpr λy hy=>V7 λz=>nd.1 (z▸Vi hy)
   rw[aaf (p:=λx:Ln=>decide (x.nm≠l.nm)) (by simp),e]
   by_cases h:lt l.nm o.nm
   ·rw[aad (by simpa using h),aag h,W7]
   ·rw[aaf (by simpa using h),aac h,Nat.add_zero]
  ·have hx:x.nm≠l.nm:=λz=>nd.1 (z▸Vi hl)
   rw[aad (p:=λx:Ln=>decide (x.nm≠l.nm)) (by simpa using hx)]
   by_cases h:lt x.nm o.nm
   ·rw[aad (by simpa using h),aad (by simpa using h),W7,W7,ih nd.2 hl];omega
   ·rw[aaf (by simpa using h),aaf (by simpa using h),ih nd.2 hl]
end
theorem Jm{lt:Nm->Nm->Prop}{n:Nat}{rem:List Ln}{l:Ln}(h:rem.find? (free lt rem)=some l):qG lt (n+1) rem=l::qG lt n (rem.filter λo=>o.nm≠l.nm):=by
 rw[qG,h]
section
variable{P:Program}{w:World}{K:Qqy}{mg:Qqx}{base:Heap}{A:Ad}
def Q5(A:Ad):Sp:=λvs H Q _=>∃(a h:Addr)(ls al:List Ln),vs=[.ref a,.ref h]/\pO A H a ls/\BV H h al/\z7 ls.length/\(ls.map (·.nm)).Nodup/\(∀l∈ls,l.nm∈al.map (·.nm))/\IU al/\
 ∀p H',gg H H'->H p=none->pO A H' p (rowOf (Ah al) ls)->Q (.ref p) H'
theorem G8(T:Txt mg)(O:Ok K mg A):iq P w K mg base lN 2 A.Dz A.DA ["lines","ahead"] (Q5 A):=by
 have Cn:=@Aq P w K mg base A T O
 refine O.Jf.f.pR k8 λjv A0 outer s H vs Q E hr h=>?_
 obtain⟨a,h,ls,al,rfl,⟨as,ha,pa⟩,⟨kh,Sr,Zg⟩,kL,nd,x_,tp,q⟩:=h
 have hlen:=aaj pa
 have Ec:ls.length<=4000:=kL
 have sz:sizeLine=16777216:=aaE
 have tpl:∃rk:Nm->Nat,∀m n,Ah al m n->rk m<rk n:=by obtain⟨rk,r⟩:=tp;exact⟨rk,λm n z=>r.ah z⟩
 refine⟨_,(c_ (lg 2 k8 lu)
   (c_ (lg 3 k8 lu)
   (c_ (iI aap rfl (iH (pv 0)) (iK (i:=4) k8.nd rfl (Or.inr rfl)) (c_ (jd (by exact iS hr) (pv 2) (hU (pv 4) rfl) (pv 4) rfl)
   (eV (jd (by exact iS hr) (pv 3) (hU (pv 4) rfl) (hG gq (by rfl) T.jW aaz (ak (vT Dl (f_ uU).names [7] rfl (iH (pv 0)) rfl (by decide+kernel) (λ_ _ _ _=>(iK (i:=7) k8.nd rfl (Or.inl rfl))) (λ_ _ _ _=>⟨_,oO (jw (pV (by exact iS hr) (hU (pv 7) rfl) (Af hr (pv 1) (hU (pv 4) rfl)))),by(try simp only [kR]);rfl⟩) (λ_ _ _ _=>Bz (pv 7))) d_)) rfl))))
   (c_ (lg 5 k8 (ji d_))
   (c_ (yv aap (GX (pv 3) (λ_=>rfl)) (c_ (lg 6 k8 (n_ O.zf Cn hr (ak (pv 3) d_)))
   (c_ (iu (IL (by exact iS hr) (pv 3) (pv 6) ⟨rfl,rfl,rfl,rfl⟩))
   (c_ (iu (k7 aaq aax aay iP (pv 5) (ak (Af hr (pv 2) (pv 6)) d_)))
   (eV (iI aap rfl (iH (lV (xV rfl) (by rfl) T.ug abr (ak (pv 3) d_))) (uc 7 k8) (eV (iJ (jw (pV (by exact iS hr) (pv 6) (Af hr (pv 1) (pv 7)))) (eV (jd (by exact iS hr) (pv 3) (pv 7) (gn yz (Af hr (pv 3) (pv 7)) e_) rfl)) ie))))))))
   (eV (ia (pv 5)))))))),?_⟩
 refine YF ?_;intro _ _ _ _ _
 intro bn Ss wt Ua
 have s1:gg H (L2.upd (L2.upd H bn (.dT [])) wt (.dT [])):=((gg.refl H).new Ss).new Ua
 have O8:H wt=none:=((gg.refl H).new (o:=.dT []) Ss).free Ua
 have Su:bn≠wt:=λz=>by rw[z,a_] at Ua;cases Ua
 dsimp only [o3];refine NW ?_;intro _
 let Jv:=λ(i:Nat) (Z:St) (H2:Hp)=>∃(v4:Option V)(kb kw:List (List Key×V)),Z=[rr a,rr h,rr bn,rr wt,v4,none,none,none]/\gg H H2/\H2 bn=some (.dT kb)/\H2 wt=some (.dT kw)/\kb.length<=i/\(∀l∈ls.take i,∃b,iA kb (nk l.nm)=some (.ref b)/\lP A H b l)/\Wait kw (ls.take i) (oe (Ah al) ls)
 refine⟨_,rfl,a,rfl,⟨_,h_.of (s1 _ _ ha)⟩,jy (K:=K) (a:=a) (xs:=as.map V.ref) Jv
  ⟨none,[],[],rfl,s1,by rw[de Su];exact a_,a_,Vb _,(λl hl=>by rw[abU] at hl;cases hl),⟨rfl,(λl hl=>by rw[abU] at hl;cases hl)⟩⟩ (by rintro _ _ _ _ ⟨_,_,_,_,s3,_⟩;exact h_.of (s3 _ _ ha)) ?_ ?_⟩
 ·rintro i v Z H2 hx ⟨v4,kb,kw,rfl,s3,h1,h2,h3,h4,W⟩
  obtain⟨b,hb,rfl⟩:=jR hx
  obtain⟨l,hl,dx,vn,vu,vl,g1,⟨t,rfl,g2⟩,g3,g4⟩:=il pa hb
  have hlm:l∈ls:=Xj hl
  have hi:i<ls.length:=(List.getElem?_eq_some_iff.mp hl).1
  have zK:∀x∈ls.take i,x.nm≠l.nm:=λx hx z=>by
   obtain⟨j,hj⟩:=aaT.mp hx
   have Mc:j<i:=by have:=(List.getElem?_eq_some_iff.mp hj).1;rw[aaA] at this;omega
   rw[List.getElem?_take,aag Mc] at hj
   have e1:(ls.map (·.nm))[j]?=some l.nm:=by rw[YI,hj,<-z];rfl
   have e2:(ls.map (·.nm))[i]?=some l.nm:=by rw[YI,hl];rfl
   have:=(List.getElem?_inj (List.getElem?_eq_some_iff.mp e1).1 nd).mp (e1.trans e2.symm)
   omega
  obtain⟨bb,dk,z1,z2,z3⟩:=Zg l.nm (x_ l hlm)
  have P4:=iQ kb (nk l.nm) (V.ref b)
  refine⟨_,rfl,_,rfl,_,rfl,b,A.hX,dx,_,_,rfl,s3 _ _ g1,O.iO,O.hZ,i0,bn,_,rfl,mB.t (k:=nk l.nm) h1 (s3 _ _ g2) (by omega),?_⟩
  have s4:gg H (L2.upd H2 bn (.dT (putK kb (nk l.nm) (V.ref b)))):=s3.upd Ss
  have L9:L2.upd H2 bn (.dT (putK kb (nk l.nm) (V.ref b))) bn=some (.dT (putK kb (nk l.nm) (V.ref b))):=a_
  have Zh:L2.upd H2 bn (.dT (putK kb (nk l.nm) (V.ref b))) wt=some (.dT kw):=by rw[de Su.symm];exact h2
  generalize L2.upd H2 bn (.dT (putK kb (nk l.nm) (V.ref b)))=H3 at s4 L9 Zh ⊢
  refine⟨_,rfl,a,rfl,⟨_,h_.of (s4 _ _ ha)⟩,ky (K:=K) (a:=a) (xs:=as.map V.ref) (by rw[QU,hlen];omega) (λj ys Z H4=>∃v7:Option V,Z=[rr a,rr h,rr bn,rr wt,rr b,none,none,v7]/\H4=H3/\ys.length=oe (Ah al) (ls.take j) l)
   ⟨none,rfl,rfl,rfl⟩ (by rintro _ _ _ _ _ ⟨_,_,e,e2⟩;subst e;exact⟨h_.of (s4 _ _ ha),by rw[e2];unfold oe;exact aao (aaM _ _) (by rw[aaA];omega)⟩) ?_ ?_⟩
  ·rintro j v ys Z H4 hx ⟨v7,rfl,rfl,e2⟩
   obtain⟨b2,O9,rfl⟩:=jR hx
   obtain⟨l2,JV,dx2,vn2,vu2,vl2,k1,⟨t2,rfl,k2⟩,k3,k4⟩:=il pa O9
   refine⟨_,rfl,b2,A.hX,dx2,_,_,rfl,s4 _ _ k1,O.iO,O.hZ,i0,_,rfl,_,rfl,b,A.hX,dx,_,_,rfl,s4 _ _ g1,O.iO,O.hZ,i0,h,.ref bb,rfl,?_,bb,_,rfl,jg.t (k:=nk l2.nm) (s4 _ _ z2) (s4 _ _ k2),_,rfl,?_⟩
   ·have:=jg.t (k:=nk l.nm) (s4 _ _ Sr) (s4 _ _ g2)
    rw[z1] at this
    exact this
   ·unfold oe at e2 ⊢
    rw[take_snoc JV,aaH,Vh]
    by_cases hm:Ah al l2.nm l.nm
    ·rw[(z3 l2.nm).mpr hm]
     refine oM ⟨_,rfl,_,rfl,rfl,?_⟩
     rw[aad (by simpa using hm),aaX,Vh,e2];rfl
    ·rw[abF.mpr λz=>hm ((z3 l2.nm).mp z)]
     refine j_ ⟨_,rfl,rfl,?_⟩
     rw[aaf (by simpa using hm),aaX,e2];rfl
  ·rintro ys Z H4 ⟨v7,rfl,rfl,e2⟩ p hp
   rw[QU,hlen,aav] at e2
   have s5:=s4.new (o:=.lst ys) hp
   have MQ:=W.len
   rw[aaA] at MQ
   refine⟨p,_,rfl,.inl (h_.of a_),_,rfl,_,rfl,b,A.hX,dx,_,_,rfl,s5 _ _ g1,O.iO,O.hZ,i0,wt,_,rfl,mB.t (k:=nk l.nm) (ip hp Zh) (s5 _ _ g2) (by omega),?_⟩
   refine⟨_,_,_,rfl,s5.upd O8,by rw[de Su];exact ip hp L9,a_,by omega,λx hx=>?_,⟨?_,λx hx=>?_⟩⟩
   ·rw[take_snoc hl] at hx
    rcases YD.mp hx with hx|hx
    ·obtain⟨c,c1,c2⟩:=h4 x hx
     exact⟨c,by rw[jq,aac (λz=>zK x hx (oT z))];exact c1,c2⟩
    ·rw[Sd.mp hx]
     exact⟨b,by rw[jq,aag rfl],dx,_,vu,vl,g1,⟨t,rfl,g2⟩,g3,g4⟩
   ·rw[pQ,W.keys,take_snoc hl,aar]
    exact aac λz=>by
     obtain⟨x,hx,e⟩:=List.mem_map.mp z
     exact zK x hx (oT e)
   ·rw[take_snoc hl] at hx
    rw[jq]
    rcases YD.mp hx with hx|hx
    ·rw[aac (λz=>zK x hx (oT z))];exact W.val x hx
    ·rw[Sd.mp hx,aag rfl,e2]
 ·rintro Z H2 ⟨v4,kb,kw,rfl,s3,h1,h2,h3,h4,W⟩
  have el:(as.map V.ref).length=ls.length:=by rw[QU];exact hlen
  rw[el,aav] at h4 W
  refine⟨L2.kL,λr qS=>?_⟩
  have Zi:H r=none:=s3.free qS
  have hrb:bn≠r:=gc h1 qS
  have Wn:wt≠r:=gc h2 qS
  obtain⟨rk,En⟩:=tpl
  refine⟨λm Z H3=>∃(v6 v7:Option V)(kw:List (List Key×V))(rem row:List Ln)(rs:List Addr),m=rem.length/\Z=[rr a,rr h,rr bn,rr wt,v4,rr r,v6,v7]/\gg H H3/\H3 bn=some (.dT kb)/\H3 wt=some (.dT kw)/\H3 r=some (.lst (rs.map V.ref))/\Paired (lP A H) rs row/\Wait kw rem (oe (Ah al) rem)/\rem.Sublist ls/\row.length+rem.length=ls.length/\row++qG (Ah al) rem.length rem=rowOf (Ah al) ls,
   ⟨ls.length,none,none,kw,ls,[],[],rfl,rfl,s3.new qS,ip qS h1,ip qS h2,a_,.nil,W,aaC _,by simp,rfl⟩,?_⟩
  rintro m Z H3 ⟨v6,v7,kw,rem,row,rs,rfl,rfl,s4,b1,w1,r1,pr,W,sub,hsum,Co⟩
  have M5:(rem.map (·.nm)).Nodup:=(sub.map _).nodup nd
  refine⟨_,rfl,wt,kw,rfl,w1,?_⟩
  have MQ:=W.len
  cases rem with
  | nil=>
   have:kw=[]:=aas.mp MQ
   subst this
   refine j_ ⟨_,rfl,q r _ s4 Zi ⟨rs,r1,?_⟩⟩
   rw[show qG (Ah al) ([]:List Ln).length []=[] from rfl,aaJ] at Co
   rw[<-Co]
   exact Paired.j0 pr λ_ _ z=>z.same s4
  | cons x0 Wo=>
   generalize Wq:x0::Wo=rem at *
   have qt:rem≠[]:=by rw[<-Wq];exact λz=>by cases z
   obtain⟨l,J7⟩:=q8 (lt:=Ah al) En rem qt
   have O_:l∈rem:=List.mem_of_find?_eq_some J7
   have Zj:l∈ls:=sub.subset O_
   have M6:=lY M5 O_
   refine yP (by cases kw with|nil=>exact absurd (aas.mp MQ.symm) qt|cons _ _=>rfl) ?_
   refine⟨λZ H4=>∃(v6 v7:Option V)(kw:List (List Key×V))(lQ row:List Ln)(rs:List Addr),lQ.length<rem.length/\Z=[rr a,rr h,rr bn,rr wt,v4,rr r,v6,v7]/\gg H H4/\H4 bn=some (.dT kb)/\H4 wt=some (.dT kw)/\H4 r=some (.lst (rs.map V.ref))/\Paired (lP A H) rs row/\Wait kw lQ (oe (Ah al) lQ)/\lQ.Sublist ls/\row.length+lQ.length=ls.length/\row++qG (Ah al) lQ.length lQ=rowOf (Ah al) ls,
    λZ' H' ⟨u6,u7,Sv,lQ,Wr,rs2,j9,z⟩=>⟨lQ.length,j9,u6,u7,Sv,lQ,Wr,rs2,rfl,z⟩,?_⟩
   refine⟨_,rfl,wt,kw,rem,oe (Ah al) rem,l,rfl,w1,W,M5,by rw[Jk];exact J7,λt ht=>?_⟩
   have Ax:=W.val l O_
   refine⟨_,rfl,wt,rfl,.inr ⟨_,.inl w1⟩,_,rfl,t,kw,nk l.nm,_,rfl,w1,ht,Ax,?_⟩
   have s5:gg H (L2.upd H3 wt (.dT (kD kw (nk l.nm)))):=s4.upd O8
   have b2:L2.upd H3 wt (.dT (kD kw (nk l.nm))) bn=some (.dT kb):=by rw[de Su];exact b1
   have r2:L2.upd H3 wt (.dT (kD kw (nk l.nm))) r=some (.lst (rs.map V.ref)):=by rw[de Wn.symm];exact r1
   have t2:L2.upd H3 wt (.dT (kD kw (nk l.nm))) t=some (nT l.nm):=by rw[de (jc ht w1 (λz=>by cases z))];exact ht
   have w2:L2.upd H3 wt (.dT (kD kw (nk l.nm))) wt=some (.dT (kD kw (nk l.nm))):=a_
   have W2:Wait (kD kw (nk l.nm)) (rem.filter λo=>o.nm≠l.nm) (oe (Ah al) rem):=⟨G7 W.keys,λo ho=>by
    have qr:=aah.mp ho
    rw[Jj _ _ _ (λz=>by have:=oT z;simpa[this] using qr.2)]
    exact W.val o qr.1⟩
   generalize L2.upd H3 wt (.dT (kD kw (nk l.nm)))=H4 at s5 b2 r2 t2 w2 ⊢
   generalize kD kw (nk l.nm)=Sv at w2 W2
   obtain⟨bl,MX,hLn⟩:=h4 l Zj
   have Ws:=aaj pr
   refine⟨_,rfl,.inl ⟨rfl,_,h_.of r2⟩,_,rfl,_,rfl,bn,.ref bl,rfl,?_,r,_,_,rfl,rfl,r2,by rw[QU,Ws];omega,?_⟩
   ·have:=jg.t (k:=nk l.nm) b2 t2
    rw[MX] at this
    exact this
   have s6:gg H (L2.upd H4 r (.lst (rs.map V.ref++[V.ref bl]))):=s5.upd Zi
   have b3:L2.upd H4 r (.lst (rs.map V.ref++[V.ref bl])) bn=some (.dT kb):=by rw[de hrb];exact b2
   have w3:L2.upd H4 r (.lst (rs.map V.ref++[V.ref bl])) wt=some (.dT Sv):=by rw[de Wn];exact w2
   have t3:L2.upd H4 r (.lst (rs.map V.ref++[V.ref bl])) t=some (nT l.nm):=by rw[de (jc t2 r2 (λz=>by cases z))];exact t2
   have r3:L2.upd H4 r (.lst (rs.map V.ref++[V.ref bl])) r=some (.lst ((rs++[bl]).map V.ref)):=by rw[a_,aar];rfl
   generalize L2.upd H4 r (.lst (rs.map V.ref++[V.ref bl]))=H5 at s6 b3 w3 t3 r3 ⊢
   have Gp:(rem.filter λo=>o.nm≠l.nm).Sublist rem:=aa0
   generalize hR:(rem.filter λo=>decide (o.nm≠l.nm))=lQ at W2 Gp M6
   have Sw:(lQ.map (·.nm)).Nodup:=(Gp.map _).nodup M5
   refine⟨_,rfl,wt,Sv,rfl,w3,λp bs hp Zk=>?_⟩
   have s7:=s6.new (o:=.lst (bs.map V.ref)) hp
   have Wt:=aaj Zk
   have Gk:=W2.len
   let Jv:=λ(j:Nat) (Z:St) (H6:Hp)=>∃(v7:Option V)(J9:List (List Key×V)),Z=[rr a,rr h,rr bn,rr wt,v4,rr r,rr t,v7]/\gg H H6/\H6 bn=some (.dT kb)/\H6 wt=some (.dT J9)/\H6 t=some (nT l.nm)/\H6 r=some (.lst ((rs++[bl]).map V.ref))/\H6 p=some (.lst (bs.map V.ref))/\(∀b∈bs,∀xs,H5 b=some (.tup xs)->H6 b=some (.tup xs))/\J9.map (·.1)=lQ.map (λl=>nk l.nm)/\∀(i:Nat)(o:Ln),lQ[i]?=some o->iA J9 (nk o.nm)=some (.int ((if i<j then oe (Ah al) lQ o else oe (Ah al) rem o:Nat):Int))
   refine⟨p,rfl,⟨_,h_.of a_⟩,jy (K:=K) (a:=p) (xs:=bs.map V.ref) Jv
    ⟨v7,Sv,rfl,s7,ip hp b3,ip hp w3,ip hp t3,ip hp r3,a_,λb _ xs e=>ip hp e,W2.keys,λi o ho=>by rw[aac (by omega)];exact W2.val o (Xj ho)⟩ (by rintro _ _ _ _ ⟨_,_,_,_,_,_,_,_,e,_⟩;exact h_.of e) ?_ ?_⟩
   ·rintro j v Z H6 hx ⟨v7,J9,rfl,s8,b4,w4,t4,r4,p4,Mg,Bi,J_⟩
    obtain⟨c,hc,rfl⟩:=jR hx
    obtain⟨⟨k,v⟩,hkv,Wu⟩:=k_ Zk hc
    obtain⟨o,ho,rfl,rfl⟩:=W2.get Sw hkv
    have Pa:o∈rem:=Gp.subset (Xj ho)
    have Wv:H6 c=some (nT o.nm):=Mg c (Xj hc) _ Wu
    obtain⟨bb,dk,z1,z2,z3⟩:=Zg o.nm (x_ o (sub.subset Pa))
    have Bg:=Jl (lt:=Ah al) M5 O_ o
    have Zl:∀(Sx:List (List Key×V)),Sx.map (·.1)=lQ.map (λl=>nk l.nm)->(∀x∈lQ,x.nm≠o.nm->iA Sx (nk x.nm)=iA J9 (nk x.nm))->iA Sx (nk o.nm)=some (.int ((oe (Ah al) lQ o:Nat):Int))->∀(i:Nat)(x:Ln),lQ[i]?=some x->iA Sx (nk x.nm)=some (.int ((if i<j+1 then oe (Ah al) lQ x else oe (Ah al) rem x:Nat):Int)):=λSx _ h1 h2 i x Sy=>by
     by_cases e:i=j
     ·subst e
      rw[ho] at Sy
      cases Sy
      rw[aag (abA _)]
      exact h2
     ·have Ww:x.nm≠o.nm:=λz=>by
       have e1:(lQ.map (·.nm))[i]?=some o.nm:=by rw[YI,Sy,<-z];rfl
       have e2:(lQ.map (·.nm))[j]?=some o.nm:=by rw[YI,ho];rfl
       exact e ((List.getElem?_inj (List.getElem?_eq_some_iff.mp e1).1 Sw).mp (e1.trans e2.symm))
      rw[h1 x (Xj Sy) Ww,J_ i x Sy]
      by_cases T3:i<j
      ·rw[aag T3,aag (by omega)]
      ·rw[aac T3,aac (by omega)]
    rw[hR] at Bg
    refine⟨_,rfl,_,rfl,_,rfl,h,.ref bb,rfl,?_,bb,_,rfl,jg.t (k:=nk l.nm) (s8 _ _ z2) t4,_,rfl,?_⟩
    ·have:=jg.t (k:=nk o.nm) (s8 _ _ Sr) Wv
     rw[z1] at this
     exact this
    by_cases hm:Ah al l.nm o.nm
    ·rw[(z3 l.nm).mpr hm]
     rw[aag hm] at Bg
     refine oM ?_
     have Sz:=J_ j o ho
     rw[aac (abj _)] at Sz
     have hg:jg H6 wt (.ref c) (some (.int ((oe (Ah al) rem o:Nat):Int))):=by
      have:=jg.t (k:=nk o.nm) w4 Wv
      rw[Sz] at this
      exact this
     have hk3:J9.length=lQ.length:=by have:=aaQ List.length Bi;rwa [QU,QU] at this
     refine⟨_,rfl,_,rfl,wt,_,rfl,hg,_,_,rfl,rfl,_,rfl,_,rfl,wt,_,rfl,mB.t (k:=nk o.nm) w4 Wv (by omega),?_⟩
     have kk:(putK J9 (nk o.nm) (V.int ((oe (Ah al) rem o:Nat)-1))).map (·.1)=lQ.map (λl=>nk l.nm):=by
      rw[pQ,Bi]
      exact aag (List.mem_map.mpr ⟨o,Xj ho,rfl⟩)
     refine⟨_,_,rfl,s8.upd O8,by rw[de Su];exact b4,a_,by rw[de (jc t4 w4 (λz=>by cases z))];exact t4,by rw[de Wn.symm];exact r4,by rw[de (jc p4 w4 (λz=>by cases z))];exact p4,λb hb xs e=>?_,kk,Zl _ kk (λx _ Ww=>?_) ?_⟩
     ·have:=Mg b hb xs e
      rw[de (jc this w4 (λz=>by cases z))];exact this
     ·rw[jq,aac (λz=>Ww (oT z))]
     ·rw[jq,aag rfl]
      have e9:((oe (Ah al) rem o:Nat):Int)-1=((oe (Ah al) lQ o:Nat):Int):=by omega
      exact aaQ (λz=>some (V.int z)) e9
    ·rw[abF.mpr λz=>hm ((z3 l.nm).mp z)]
     rw[aac hm] at Bg
     refine j_ ⟨_,J9,rfl,s8,b4,w4,t4,r4,p4,Mg,Bi,Zl J9 Bi (λx _ _=>rfl) ?_⟩
     have Sz:=J_ j o ho
     rw[aac (abj _)] at Sz
     rw[Sz,Bg,Nat.add_zero]
   ·rintro Z H6 ⟨v7,J9,rfl,s8,b4,w4,t4,r4,p4,Mg,Bi,J_⟩
    have hlen2:(bs.map V.ref).length=lQ.length:=by rw[QU,<-Wt,Gk]
    refine⟨_,_,J9,lQ,row++[l],rs++[bl],by omega,rfl,s8,b4,w4,r4,ix pr hLn,⟨Bi,λo ho=>?_⟩,Gp.trans sub,by rw[Vh];show row.length+1+lQ.length=_;omega,?_⟩
    ·obtain⟨i,hi⟩:=aaT.mp ho
     have MY:=(List.getElem?_eq_some_iff.mp hi).1
     rw[J_ i o hi,aag (by omega)]
    ·rw[<-Co,<-M6,Jm J7,aaK,hR]
     rfl
end
end PK
namespace Kp
open PySem L2
noncomputable abbrev TB:Stmt:=PK.oP
noncomputable abbrev TC:Stmt:=PK.p_
noncomputable abbrev Vm:Stmt:=PK.qa
noncomputable abbrev MG:Stmt:=PK.EU
structure Txt(mg:Qqx):Prop where
 len:mg "len"=none
 range:mg "range"=none
 max:mg "max"=none
abbrev gi(l:List Str):List V:=l.map V.str
def tab(old new:List Str)(i:Nat):List V:=(List.range (new.length+1)).map λj=>V.int (K01.kU old new i j)
theorem BX{old new:List Str}{i j:Nat}(h:j<=new.length):(tab old new i)[j]?=some (V.int (K01.kU old new i j)):=by
 unfold tab
 rw[YI,ab7 (by omega)]
 rfl
def part(old new:List Str)(i k:Nat):List V:=(List.range (new.length+1)).map λj=>if new.length-k<=j then V.int (K01.kU old new i j) else V.int 0
theorem FX{old new:List Str}{i k j:Nat}(h:j<=new.length)(hk:new.length-k<=j):(part old new i k)[j]?=some (V.int (K01.kU old new i j)):=by
 unfold part
 rw[YI,ab7 (by omega)]
 show some (if _ then _ else _)=_
 rw[aag hk]
theorem zq(old new:List Str)(i k:Nat):(part old new i k).length=new.length+1:=by unfold part;rw[QU,abG]
theorem Jn(old new:List Str)(i:Nat):part old new i new.length=tab old new i:=by
 unfold part tab
 refine ab5 λj _=>?_
 rw[aag (by omega)]
theorem A7(old new:List Str)(i n:Nat)(h:n=new.length+1):(List.replicate n [V.int 0]).flatten=part old new i 0:=by
 subst h
 refine acm λj=>?_
 unfold part
 rw[YI]
 have e:(List.replicate (new.length+1) [V.int 0]).flatten=List.replicate (new.length+1) (V.int 0):=by
  generalize new.length+1=m
  induction m with
  | zero=>rfl
  | succ m ih=>rw[aa7,abY,ih,aa7];rfl
 rw[e,List.getElem?_replicate]
 by_cases hj:j<new.length+1
 ·rw[aag hj,ab7 hj]
  show some _=some (if _ then _ else _)
  by_cases h2:new.length-0<=j
  ·rw[aag h2,K01.lB (.inr (by omega))];rfl
  ·rw[aac h2]
 ·rw[aac hj,List.getElem?_eq_none_iff.mpr (by rw[abG];omega)]
  rfl
theorem DL{old new:List Str}{i k:Nat}(h:k<new.length):(part old new i k).set (new.length-1-k) (V.int (K01.kU old new i (new.length-1-k)))=part old new i (k+1):=by
 refine acm λj=>?_
 by_cases e:j=new.length-1-k
 ·subst e
  rw[aa6 (by rw[zq];omega),FX (by omega) (by omega)]
 ·rw[abc (λz=>e z.symm)]
  unfold part
  rw[YI,YI]
  by_cases hj:j<new.length+1
  ·rw[ab7 hj]
   show some (if _ then _ else _)=some (if _ then _ else _)
   by_cases h2:new.length-k<=j
   ·rw[aag h2,aag (by omega)]
   ·rw[aac h2,aac (by omega)]
  ·rw[List.getElem?_eq_none_iff.mpr (by rw[abG];omega)]
   rfl
theorem ju{l:List Str}{j:Nat}{x:Str}(h:l[j]?=some x):(gi l)[j]?=some (V.str x):=by rw[YI,h];rfl
section
variable{P:Program}{w:World}{K:Qqy}{mg:Qqx}{base:Heap}
theorem Oi:gs ["text","new","below","counts","second"] ["text","new","below"] (f_ TB):=⟨rfl,rfl,rfl,by decide+kernel,rfl,by decide+kernel,by decide+kernel⟩
def Q6:Sp:=λvs H Q _=>∃(old new:List Str)(i:Nat)(t:Str)(n b:Addr),vs=[.str t,.ref n,.ref b]/\old[i]?=some t/\H n=some (.lst (gi new))/\H b=some (.lst (tab old new (i+1)))/\new.length<=1000/\
 ∀p H',gg H H'->H p=none->H' p=some (.lst (tab old new i))->Q (.ref p) H'
theorem Q7{f:Addr}{fd:FuncData}(F:xc K "counts_with" "counts_with" TB f fd)(T:Txt mg):iq P w K mg base lN 1 f fd ["text","new","below"] Q6:=by
 refine F.pR Oi λjv A outer s H vs Q E hr h=>?_
 obtain⟨old,new,i,t,n,b,rfl,ht,hn,hb,hl,k⟩:=h
 refine⟨_,c_ (lU (i:=3) Oi.nd rfl (Or.inl rfl) (gn ED (ji (ak e_ d_)) (gn ik (hG gq (by rfl) T.len aaz (ak (pv 1) d_)) e_)))
  (c_ (iI aap rfl (vU rfl T.range (ak (gn yz (hG gq (by rfl) T.len aaz (ak (pv 1) d_)) e_) (ak (yy tY e_) (ak (yy tY e_) d_)))) (iK (i:=4) Oi.nd rfl (Or.inl rfl))
   (eV (iJ (ij lh (jA kx (pv 1) (pv 4) (λ_ _=>rfl)) (pv 0) (iy _))
    (eV (yu (gn ik (jA kx (pv 2) (gn ik (pv 4) e_) (λ_ _=>rfl)) e_) (yt (pv 3) (pv 4) set_list)))
    (eV (yu (hG (vO rfl) (by rfl) T.max PyProof.Rows.boot_max (ak (jA kx (pv 2) (pv 4) (λ_ _=>rfl)) (ak (jA kx (pv 3) (gn ik (pv 4) e_) (λ_ _=>rfl)) d_))) (yt (pv 3) (pv 4) set_list))))))
  (eV (ia (pv 3)))),?_⟩
 refine Em ?_;intro _ _
 refine⟨kL,λl P5=>?_⟩
 have P_:(upd H l (.lst [V.int 0])) n=some (.lst (gi new)):=by rw[de (gc hn P5)];exact hn
 refine⟨_,rfl,n,_,rfl,.inl (h_.of P_),_,_,rfl,rfl,l,_,_,rfl,rfl,a_,by simp<;>omega,by simp<;>omega,by simp;have:sizeLine=2 ^ 24:=rfl;omega,λp hp=>?_⟩
 have qP:p≠l:=λz=>by rw[z,a_] at hp;cases hp
 have Gq:H p=none:=by rw[de qP] at hp;exact hp
 have s0:gg H (upd H l (.lst [V.int 0])):=(gg.refl H).upd P5
 have e0:(List.replicate (((gi new).length:Int)+1).toNat [V.int 0]).flatten=part old new i 0:=A7 old new i _ (by simp<;>omega)
 rw[e0]
 have s1:gg H (upd (upd H l (.lst [V.int 0])) p (.lst (part old new i 0))):=s0.upd Gq
 refine⟨_,rfl,n,_,rfl,.inl (h_.of (s1 n _ hn)),_,_,rfl,rfl,_,rfl,_,rfl,_,_,rfl,⟨by simp<;>omega,by simp<;>omega,by omega,by omega⟩,?_⟩
 have en:((((gi new).length:Int)-1) - -1).toNat=new.length:=by simp<;>omega
 rw[en]
 let Jv:=λ(m:Nat) (Z:St) (H2:Hp)=>∃v,Z=[rs t,rr n,rr b,rr p,v]/\gg H H2/\H2 p=some (.lst (part old new i m))
 refine nI Jv ⟨none,rfl,s1,a_⟩ ?_ ?_
 ·rintro m Z H2 hm ⟨v,rfl,s2,h2⟩
  obtain⟨j,hj⟩:∃j,j=new.length-1-m:=⟨_,rfl⟩
  have Ub:j<new.length:=by omega
  rw[show((gi new).length:Int)-1+(m:Int) * -1=(j:Int) by simp<;>omega]
  have Pb:new[j]?=some new[j]:=R7 Ub
  have B:=K01.Ll ht Pb
  refine⟨_,rfl,_,rfl,n,_,_,_,rfl,rfl,h_.of (s2 n _ hn),ig rfl (ju Pb),_,rfl,rfl,_,rfl,?_⟩
  refine lb (λhc=>?_) (λhc=>?_)
  ·have hc:new[j]=t:=by have:=aau hc;injection this
   rw[aag hc] at B
   refine⟨_,rfl,_,rfl,_,_,rfl,rfl,b,_,_,_,rfl,rfl,h_.of (s2 b _ hb),ig (j:=j+1) (by omega) (BX (by omega)),_,_,rfl,rfl,_,rfl,_,rfl,p,_,_,j,rfl,rfl,h2,yO rfl (by rw[zq];omega),?_⟩
   refine⟨_,rfl,s2.upd Gq,?_⟩
   rw[a_]
   have e:((K01.kU old new (i+1) (j+1):Nat):Int)+1=((K01.kU old new i j:Nat):Int):=by omega
   rw[e,hj,DL hm]
  ·have hc:¬new[j]=t:=λz=>hc (by rw[z];exact V7 rfl)
   rw[aac hc] at B
   refine⟨_,rfl,_,rfl,b,_,_,_,rfl,rfl,h_.of (s2 b _ hb),ig rfl (BX (by omega)),_,rfl,_,rfl,_,_,rfl,rfl,p,_,_,_,rfl,rfl,h_.of h2,ig (j:=j+1) (by omega) (FX (by omega) (by omega)),_,_,rfl,_,rfl,_,rfl,p,_,_,j,rfl,rfl,h2,yO rfl (by rw[zq];omega),?_⟩
   refine⟨_,rfl,s2.upd Gq,?_⟩
   rw[a_]
   have e:(if((K01.kU old new i (j+1):Nat):Int)>((K01.kU old new (i+1) j:Nat):Int) then((K01.kU old new i (j+1):Nat):Int) else((K01.kU old new (i+1) j:Nat):Int))=((K01.kU old new i j:Nat):Int):=by split<;>omega
   rw[e,hj,DL hm]
 ·rintro Z H2 ⟨v,rfl,s2,h2⟩
  refine⟨_,rfl,k p H2 s2 Gq ?_⟩
  rw[h2,Jn]
def MH(H:Hp)(old new:List Str)(rows:List V)(SA:Nat):Prop:=rows.length=old.length+1/\∀i,i<=old.length->∃a,rows[i]?=some (.ref a)/\(SA<=i->H a=some (.lst (tab old new i)))
abbrev nMP:List Str:=["old","new","table","first","place"]
theorem LD:gs ["old","new","table","first","place"] ["old","new"] (f_ TC):=⟨rfl,rfl,rfl,by decide+kernel,rfl,by decide+kernel,by decide+kernel⟩
def Q8:Sp:=λvs H Q _=>∃(old new:List Str)(o n:Addr),vs=[.ref o,.ref n]/\H o=some (.lst (gi old))/\H n=some (.lst (gi new))/\old.length<=1000/\new.length<=1000/\
 ∀p H' rows,gg H H'->H p=none->H' p=some (.lst rows)->MH H' old new rows 0->Q (.ref p) H'
theorem Jo(new:List Str)(n:Nat)(h:n=new.length+1):(List.replicate n [V.int 0]).flatten=tab [] new 0:=by
 rw[A7 [] new 0 n h]
 unfold part tab
 refine ab5 λj _=>?_
 rw[show K01.kU ([]:List Str) new 0 j=0 from K01.lB (.inl (by simp))]
 split<;>rfl
theorem LF(old new:List Str)(n:Nat)(h:n=new.length+1):(List.replicate n [V.int 0]).flatten=tab old new old.length:=by
 rw[Jo new n h]
 unfold tab
 refine ab5 λj _=>?_
 rw[show K01.kU ([]:List Str) new 0 j=0 from K01.lB (.inl (by simp)),K01.lB (.inl (Vb _))]
theorem Q9{f fC:Addr}{fd Qb:FuncData}(F:xc K "most_pairs" "most_pairs" TC f fd)(T:Txt mg)(C:xc K "counts_with" "counts_with" TB fC Qb)(bC:Binds K Qb ["text","new","below"] [])(mC:mg "counts_with"=some (.ref fC)) :
  iq P w K mg base lN 2 f fd ["old","new"] Q8:=by
 have GC:iq P w K mg base lN 1 fC Qb ["text","new","below"] Q6:=Q7 C T
 refine F.pR LD λjv A outer s H vs Q E hr h=>?_
 obtain⟨old,new,o,n,rfl,ho,hn,TQ,uy,k⟩:=h
 refine⟨_,c_ (MB (j:=2) nMP (f_ TC).names [4] LD.nd rfl rfl rfl (jS rfl T.range (ak (gn ik (hG gq (by rfl) T.len aaz (ak (pv 0) d_)) e_) d_)) rfl (by decide+kernel)
   (λ_ _ _ _=>iK (i:=4) LD.nd rfl (Or.inl rfl)) (λ_ _ _ _=>oN) (λ_ _ _ _=>⟨_,gn ED (ji (ak e_ d_)) (gn ik (hG gq (by rfl) T.len aaz (ak (pv 1) d_)) e_),by(try simp only [kR]);rfl⟩))
  (c_ (iI aap rfl (vU rfl T.range (ak (gn yz (hG gq (by rfl) T.len aaz (ak (pv 0) d_)) e_) (ak (yy tY e_) (ak (yy tY e_) d_)))) (iK (i:=3) LD.nd rfl (Or.inl rfl))
   (eV (yu (uE GC hr rfl mC C.kp bC .nil o6 (ak (jA kx (pv 0) (pv 3) (λ_ _=>rfl)) (ak (pv 1) (ak (jA kx (pv 2) (gn ik (pv 3) e_) (λ_ _=>rfl)) d_)))) (yt (pv 2) (pv 3) set_list))))
  (eV (ia (pv 2)))),?_⟩
 refine Em ?_;intro _ _
 refine⟨_,rfl,o,_,rfl,.inl (h_.of ho),_,_,rfl,rfl,_,rfl,by simp<;>omega,by simp<;>omega,?_⟩
 have en:(((gi old).length:Int)+1).toNat=old.length+1:=by simp<;>omega
 rw[en]
 let Jv:=λ(m:Nat) (ys:List V) (Z:St) (H2:Hp)=>∃v,Z=[rr o,rr n,none,none,v]/\gg H H2/\ys.length=m/\∀i,i<m->∃a,ys[i]?=some (.ref a)/\H a=none/\H2 a=some (.lst (tab old new old.length))
 refine qY (by have:sizeLine=2 ^ 24:=rfl;omega) Jv
  ⟨none,rfl,gg.refl H,rfl,λi hi=>absurd hi (Nat.not_lt_zero _)⟩ (by rintro _ _ _ _ ⟨_,_,_,e,_⟩;exact Nat.le_of_eq e) ?_ ?_
 ·rintro m ys Z H2 hm ⟨v,rfl,s2,hy,z8⟩
  refine⟨kL,λl P5=>?_⟩
  have s3:gg H (upd H2 l (.lst [V.int 0])):=s2.new P5
  refine⟨_,rfl,n,_,rfl,.inl (h_.of (s3 n _ hn)),_,_,rfl,rfl,l,_,_,rfl,rfl,a_,by simp<;>omega,by simp<;>omega,by simp;have:sizeLine=2 ^ 24:=rfl;omega,λp hp=>?_⟩
  rw[LF old new _ (show(((gi new).length:Int)+1).toNat=new.length+1 by simp<;>omega)]
  have qP:p≠l:=λz=>by rw[z,a_] at hp;cases hp
  have yp:H2 p=none:=by rw[de qP] at hp;exact hp
  refine⟨_,rfl,s3.new hp,by rw[Vh,hy];rfl,λi hi=>?_⟩
  by_cases e:i<m
  ·obtain⟨a,e1,e2,e3⟩:=z8 i e
   refine⟨a,by rw[abS (by omega)];exact e1,e2,?_⟩
   rw[de (gc e3 yp),de (gc e3 P5)]
   exact e3
  ·have:i=m:=by omega
   subst this
   exact⟨p,by rw[abb (by omega),hy];simp,s2.free yp,a_⟩
 ·rintro ys Z H2 ⟨v,rfl,s2,hy,z8⟩ p hp
  have s3:gg H (upd H2 p (.lst ys)):=s2.new hp
  have Gq:H p=none:=s2.free hp
  refine⟨_,rfl,o,_,rfl,.inl (h_.of (s3 o _ ho)),_,_,rfl,rfl,_,rfl,_,rfl,_,_,rfl,⟨by simp<;>omega,by simp<;>omega,by omega,by omega⟩,?_⟩
  have en:((((gi old).length:Int)-1) - -1).toNat=old.length:=by simp<;>omega
  rw[en]
  let Jv:=λ(m:Nat) (Z:St) (H3:Hp)=>∃v w rows,Z=[rr o,rr n,rr p,v,w]/\gg H H3/\H3 p=some (.lst rows)/\MH H3 old new rows (old.length-m)/\∀i a,i<=old.length->rows[i]?=some (.ref a)->a≠p
  refine nI Jv
   ⟨_,_,ys,rfl,s3,a_,⟨hy,λi hi=>?_⟩,λi a hi ha=>?_⟩ ?_ ?_
  ·obtain⟨a,e1,e2,e3⟩:=z8 i (by omega)
   refine⟨a,e1,λz=>?_⟩
   have:i=old.length:=by omega
   subst this
   rw[de (gc e3 hp)]
   exact e3
  ·obtain⟨a',e1,e2,e3⟩:=z8 i (by omega)
   rw[ha] at e1
   cases e1
   exact gc e3 hp
  ·rintro m Z H3 hm ⟨v,w',rows,rfl,s4,h4,tb,nb⟩
   obtain⟨i,hi⟩:∃i,i=old.length-1-m:=⟨_,rfl⟩
   have MY:i<old.length:=by omega
   rw[show((gi old).length:Int)-1+(m:Int) * -1=(i:Int) by simp<;>omega]
   have T2:old[i]?=some old[i]:=R7 MY
   obtain⟨b,e1,e2⟩:=tb.2 (i+1) (by omega)
   refine⟨_,rfl,_,rfl,o,_,_,_,rfl,rfl,h_.of (s4 o _ ho),ig rfl (ju T2),_,rfl,_,rfl,_,rfl,_,_,rfl,rfl,p,_,_,_,rfl,rfl,h_.of h4,ig (j:=i+1) (by omega) e1,?_⟩
   refine⟨old,new,i,_,n,b,rfl,T2,s4 n _ hn,e2 (by omega),uy,λq H5 s5 Zm h5=>?_⟩
   have Zn:q≠p:=λz=>by rw[z,h4] at Zm;cases Zm
   refine⟨_,rfl,_,rfl,p,rows,_,i,rfl,rfl,s5 p _ h4,yO rfl (by rw[tb.1];omega),?_⟩
   refine⟨_,_,_,rfl,(s4.trans s5).upd Gq,a_,⟨by rw[ace];exact tb.1,λi' yq=>?_⟩,λi' a yq ha=>?_⟩
   ·by_cases e:i'=i
    ·subst e
     refine⟨q,by rw[aa6 (by rw[tb.1];omega)],λ_=>?_⟩
     rw[de Zn];exact h5
    ·obtain⟨a,a1,a2⟩:=tb.2 i' yq
     refine⟨a,by rw[abc (λz=>e z.symm)];exact a1,λz=>?_⟩
     rw[de (nb i' a yq a1)]
     exact s5 a _ (a2 (by omega))
   ·by_cases e:i'=i
    ·subst e
     rw[aa6 (by rw[tb.1];omega)] at ha
     cases ha
     exact Zn
    ·rw[abc (λz=>e z.symm)] at ha
     exact nb i' a yq ha
  ·rintro Z H3 ⟨v,w',rows,rfl,s4,h4,tb,nb⟩
   refine⟨_,rfl,k p H3 rows s4 Gq h4 ?_⟩
   rw[Nat.sub_self] at tb
   exact tb
end
end Kp
namespace K01
theorem BY{Z:Type}[DecidableEq Z]{a:Z}{new:List Z}{j k:Nat}(hj:j<=k)(hk:new[k]?=some a)(hm:∀l,j<=l->l<k->new[l]?≠some a):i4 a new j=some k:=by
 cases e:i4 a new j with
 | none=>exact absurd hk (nN e k hj)
 | some k'=>
  obtain⟨h1,h2,h3⟩:=kj e
  rcases Nat.lt_trichotomy k k' with h|h|h
  ·exact absurd hk (h3 k hj h)
  ·rw[h]
  ·exact absurd h2 (hm k' h1 h)
theorem BZ{Z:Type}[DecidableEq Z]{a:Z}{new:List Z}{j:Nat}(hm:∀l,j<=l->l<new.length->new[l]?≠some a):i4 a new j=none:=by
 cases e:i4 a new j with
 | none=>rfl
 | some k'=>
  obtain⟨h1,h2,h3⟩:=kj e
  exact absurd h2 (hm k' h1 (List.getElem?_eq_some_iff.mp h2).1)
end K01
namespace Kp
open PySem L2
section
variable{P:Program}{w:World}{K:Qqy}{mg:Qqx}{base:Heap}
noncomputable def Vn:Option Nat->V
 | none=>.jb
 | some k=>.int k
theorem Q_:gs ["texts","text","start","place"] ["texts","text","start"] (f_ Vm):=⟨rfl,rfl,rfl,by decide+kernel,rfl,by decide+kernel,by decide+kernel⟩
def Ra:Sp:=λvs H Q _=>∃(new:List Str)(t:Str)(n:Addr)(j:Nat),vs=[.ref n,.str t,.int j]/\H n=some (.lst (gi new))/\new.length<=1000/\j<=1000/\Q (Vn (K01.i4 t new j)) H
theorem Rb{f:Addr}{fd:FuncData}(F:xc K "place_from" "place_from" Vm f fd)(T:Txt mg):iq P w K mg base lN 1 f fd ["texts","text","start"] Ra:=by
 refine F.pR Q_ λjv A outer s H vs Q E hr h=>?_
 obtain⟨new,t,n,j,rfl,hn,hl,hj,k⟩:=h
 refine⟨_,c_ (iI aap rfl (sv rfl T.range (ak (pv 2) (ak (hG gq (by rfl) T.len aaz (ak (pv 0) d_)) d_))) (iK (i:=3) Q_.nd rfl (Or.inl rfl))
   (eV (iJ (ij lh (jA kx (pv 0) (pv 3) (λ_ _=>rfl)) (pv 1) (iy _)) (eV (ia (pv 3))) ie)))
  (eV (ia vM)),?_⟩
 refine Kt ?_;intro _
 refine⟨_,rfl,_,rfl,n,_,rfl,.inl (h_.of hn),_,_,rfl,⟨by omega,by omega,by simp<;>omega,by simp<;>omega⟩,?_⟩
 let Jv:=λ(m:Nat) (Z:St) (H2:Hp)=>∃v,Z=[rr n,rs t,ri j,v]/\H2=H/\∀l,j<=l->l<j+m->new[l]?≠some t
 refine j2 Jv ⟨none,rfl,rfl,λl h1 h2=>by omega⟩ ?_ ?_
 ·rintro m Z H2 hm ⟨v,rfl,rfl,h2⟩
  have hm:j+m<new.length:=by simp at hm;omega
  rw[show(j:Int)+(m:Int)=((j+m:Nat):Int) by omega]
  have Pb:new[j+m]?=some new[j+m]:=R7 hm
  refine⟨_,rfl,_,rfl,n,_,_,_,rfl,rfl,h_.of hn,ig rfl (ju Pb),_,rfl,rfl,_,rfl,?_⟩
  refine lb (λhc=>?_) (λhc=>?_)
  ·have hc:new[j+m]=t:=by have:=aau hc;injection this
   rw[hc] at Pb
   rw[K01.BY (Nat.le_add_right j m) Pb h2] at k
   exact⟨_,rfl,k⟩
  ·have hc:¬new[j+m]=t:=λz=>hc (by rw[z];exact V7 rfl)
   refine⟨_,rfl,rfl,λl h3 h4=>?_⟩
   by_cases e:l=j+m
   ·subst e
    rw[Pb]
    intro z
    exact hc (aal z)
   ·exact h2 l h3 (by omega)
 ·rintro Z H2 ⟨v,rfl,rfl,h2⟩
  rw[K01.BZ (j:=j) λl h3 h4=>h2 l h3 (by simp<;>omega)] at k
  exact k
def mj(H:Hp)(q:Nat×Nat)(v:V):Prop:=∃a,v=.ref a/\H a=some (.tup [.int q.1,.int q.2])
abbrev i9(H:Hp)(l:List (Nat×Nat))(vs:List V):Prop:=Paired (mj H) l vs
theorem i9.keep{H H':Hp}{l:List (Nat×Nat)}{vs:List V}(h:i9 H l vs)(k:∀a xs,H a=some (.tup xs)->H' a=some (.tup xs)):i9 H' l vs:=
 Paired.j0 h λq v ⟨a,e,h⟩=>⟨a,e,k a _ h⟩
theorem Oj:gs ["old","new","table","pairs","start","first","second"] ["old","new"] (f_ MG):=⟨rfl,rfl,rfl,by decide+kernel,rfl,by decide+kernel,by decide+kernel⟩
def YJ:Sp:=λvs H Q _=>∃(old new:List Str)(o n:Addr),vs=[.ref o,.ref n]/\H o=some (.lst (gi old))/\H n=some (.lst (gi new))/\old.length<=1000/\new.length<=1000/\
 ∀p H' ps,gg H H'->H p=none->H' p=some (.lst ps)->i9 H' (K01.kept old new) ps->Q (.ref p) H'
theorem LG{f fM fC fP:Addr}{fd Wx Qb Wy:FuncData}(F:xc K "kept" "kept" MG f fd)(T:Txt mg)(C:xc K "counts_with" "counts_with" TB fC Qb)(bC:Binds K Qb ["text","new","below"] [])(mC:mg "counts_with"=some (.ref fC))
  (M:xc K "most_pairs" "most_pairs" TC fM Wx) (bM:Binds K Wx ["old","new"] []) (mM:mg "most_pairs"=some (.ref fM)) (Pf:xc K "place_from" "place_from" Vm fP Wy) (bP:Binds K Wy ["texts","text","start"] []) (mP:mg "place_from"=some (.ref fP)) :
  iq P w K mg base lN 3 f fd ["old","new"] YJ:=by
 have GM:iq P w K mg base lN 2 fM Wx ["old","new"] Q8:=Q9 M T C bC mC
 have GP:iq P w K mg base lN 2 fP Wy ["texts","text","start"] Ra:=(Rb Pf T).mono (by decide)
 refine F.pR Oj λjv A outer s H vs Q E hr h=>?_
 obtain⟨old,new,o,n,rfl,ho,hn,TQ,uy,k⟩:=h
 refine⟨_,c_ (lU (i:=2) Oj.nd rfl (Or.inl rfl) (uE GM hr rfl mM M.kp bM .nil o6 (ak (pv 0) (ak (pv 1) d_))))
  (c_ (lU (i:=3) Oj.nd rfl (Or.inl rfl) (ji d_))
  (c_ (lU (i:=4) Oj.nd rfl (Or.inl rfl) e_)
  (c_ (iI aap rfl (jS rfl T.range (ak (hG gq (by rfl) T.len aaz (ak (pv 0) d_)) d_)) (iK (i:=5) Oj.nd rfl (Or.inl rfl))
   (c_ (lU (i:=6) Oj.nd rfl (Or.inl rfl) (uE GP hr rfl mP Pf.kp bP .nil o6 (ak (pv 1) (ak (jA kx (pv 0) (pv 5) (λ_ _=>rfl)) (ak (pv 4) d_)))))
   (eV (iJ (pw_and (jw (nu (pv 6))) (pw_and1 (ij lh
     (gn ik (jA kx (jA kx (pv 2) (gn ik (pv 5) e_) (λ_ _=>rfl)) (gn ik (pv 6) e_) (λ_ _=>rfl)) e_)
     (jA kx (jA kx (pv 2) (pv 5) (λ_ _=>rfl)) (pv 4) (λ_ _=>rfl)) (iy _)))).pt
    (c_ (iu (k7 aaq aax aay iP (pv 3) (ak (kF (ak (pv 5) (ak (pv 6) d_))) d_)))
    (eV (lU (i:=4) Oj.nd rfl (Or.inl rfl) (gn ik (pv 6) e_))))
    ie))))
  (eV (ia (pv 3)))))),?_⟩
 refine ME ?_;intro _ _ _ _
 refine⟨_,rfl,_,rfl,old,new,o,n,rfl,ho,hn,TQ,uy,λtb H1 rows s1 Wl h1 SD=>?_⟩
 refine⟨kL,λpr Uc=>?_⟩
 have Wz:H pr=none:=s1.free Uc
 refine⟨_,rfl,o,_,rfl,.inl (h_.of (s1.new Uc o _ ho)),_,rfl,by simp<;>omega,by simp<;>omega,?_⟩
 have en:((gi old).length:Int).toNat=old.length:=by simp
 rw[en]
 refine j2 (λm Z H2=>∃(j:Nat)(acc:List (Nat×Nat))(ps:List V)(v w:Option V),Z=[rr o,rr n,rr tb,rr pr,ri j,v,w]/\gg H1 H2/\H2 pr=some (.lst ps)/\i9 H2 acc ps/\acc.length<=m/\j<=new.length/\
   acc++K01.pd new m (old.drop m) j=K01.kept old new) ⟨0,[],[],none,none,rfl,(gg.refl H1).new Uc,a_,.nil,Vb _,aaI _,rfl⟩ ?_ ?_
 ·rintro m Z H2 hm ⟨j,acc,ps,v,w',rfl,s2,h2,pa,tf,hj,hk⟩
  rw[show(0:Int)+(m:Int)=(m:Int) by omega]
  have hom:old[m]?=some old[m]:=R7 hm
  have hd:old.drop m=old[m]::old.drop (m+1):=aaU hm
  rw[hd,K01.pd] at hk
  refine⟨_,rfl,_,rfl,_,rfl,o,_,_,_,rfl,rfl,h_.of (s2 o _ (s1 o _ ho)),ig rfl (ju hom),_,rfl,new,_,n,j,rfl,s2 n _ (s1 n _ hn),uy,by omega,?_⟩
  cases e:K01.i4 old[m] new j with
  | none=>
   rw[e] at hk
   refine⟨_,rfl,_,rfl,o9 (by rfl) (j_ ?_)⟩
   exact⟨j,acc,ps,_,_,rfl,s2,h2,pa,by omega,hj,hk⟩
  | some q=>
   rw[e] at hk
   simp only at hk
   obtain⟨Ud,hq2,hq3⟩:=K01.kj e
   have SE:q<new.length:=(List.getElem?_eq_some_iff.mp hq2).1
   obtain⟨a1,ea1,WA⟩:=SD.2 (m+1) (by omega)
   obtain⟨a0,ea0,WB⟩:=SD.2 m (by omega)
   have WA:=s2 a1 _ (WA (aaI _))
   have WB:=s2 a0 _ (WB (aaI _))
   have SF:H2 tb=some (.lst rows):=s2 tb _ h1
   refine⟨_,rfl,_,rfl,yP (by rfl) ?_⟩
   refine⟨_,rfl,_,rfl,_,_,rfl,rfl,tb,_,_,_,rfl,rfl,h_.of SF,ig (j:=m+1) (by omega) ea1,_,rfl,_,_,rfl,rfl,a1,_,_,_,rfl,rfl,h_.of WA,ig (j:=q+1) (by omega) (BX (by omega)),_,_,rfl,rfl,
    _,rfl,_,rfl,tb,_,_,_,rfl,rfl,h_.of SF,ig rfl ea0,_,rfl,a0,_,_,_,rfl,rfl,h_.of WB,ig rfl (BX (by omega)),rfl,_,rfl,?_⟩
   refine lb (λhc=>?_) (λhc=>?_)
   ·have hc:((K01.kU old new (m+1) (q+1):Nat):Int)+1=((K01.kU old new m j:Nat):Int):=by have:=aau hc;injection this
    have Bf:K01.lcs (old.drop (m+1)) (new.drop (q+1))+1=K01.lcs (old[m]::old.drop (m+1)) (new.drop j):=by rw[<-hd];unfold K01.kU at hc;omega
    rw[aag Bf] at hk
    refine⟨_,rfl,.inl ⟨rfl,_,h_.of h2⟩,_,rfl,_,rfl,kL,λt ht=>?_⟩
    have qP:=pa.length
    have Zo:pr≠t:=gc h2 ht
    refine⟨pr,ps,_,rfl,rfl,by rw[de Zo];exact h2,by have:sizeLine=2 ^ 24:=rfl;omega,?_⟩
    refine⟨_,rfl,_,_,rfl,rfl,q+1,acc++[(m,q)],ps++[.ref t],_,_,rfl,(s2.new ht).upd Uc,a_,?_,by rw[Vh];simp;omega,by omega,by rw[aaK];exact hk⟩
    refine Paired.snoc (pa.keep λa xs ha=>?_) ⟨t,rfl,?_⟩
    ·rw[de (jc ha h2 (by intro z;cases z)),de (gc ha ht)];exact ha
    ·rw[de (abE Zo),a_]
     rfl
   ·have hc:¬((K01.kU old new (m+1) (q+1):Nat):Int)+1=((K01.kU old new m j:Nat):Int):=λz=>hc (V7 (aaQ V.int z))
    have Bf:¬K01.lcs (old.drop (m+1)) (new.drop (q+1))+1=K01.lcs (old[m]::old.drop (m+1)) (new.drop j):=by rw[<-hd];unfold K01.kU at hc;omega
    rw[aac Bf] at hk
    exact⟨j,acc,ps,_,_,rfl,s2,h2,pa,by omega,hj,hk⟩
 ·rintro Z H2 ⟨j,acc,ps,v,w',rfl,s2,h2,pa,tf,hj,hk⟩
  rw[acq,K01.pd,aaJ] at hk
  rw[hk] at pa
  exact⟨_,rfl,k pr H2 ps (s1.trans s2) Wz h2 pa⟩
end
end Kp
namespace PK
open PySem L2 PM
open Kp (mj i9)
theorem Ol(a b c d:V):jz "lower_name" d (jz "upper_name" c (jz "text" b (jz "name" a [])))=LA a b c d:=by kernel_rfl
theorem Om(a b c d e:V):jz "other" e (jz "cuts" d (jz "puts" c (jz "file" b (jz "name" a []))))=Ku a b c d e:=by kernel_rfl
def PV(a l:Addr):List (Str×V):=[("ahead",.ref a),("lines",.ref l)]
theorem Oo(a l:Addr):jz "lines" (.ref l) (jz "ahead" (.ref a) [])=PV a l:=by kernel_rfl
theorem ml(a l:Addr):(PV a l).lookup ("lines":Str)=some (V.ref l):=by kernel_rfl
theorem EZ(a l:Addr):(PV a l).lookup ("ahead":Str)=some (V.ref a):=by kernel_rfl
theorem Oq(a l:Addr):(PV a l).lookup ("is_ahead":Str)=none:=by kernel_rfl
theorem Jp(a l:Addr):(PV a l).lookup ("quarrelling":Str)=none:=by kernel_rfl
theorem G9(a:Addr):(jz ("ahead":Str) (.ref a) []).lookup ("ahead":Str)=some (V.ref a):=by kernel_rfl
def E1(A:Ad)(H:Hp)(p:Addr)(al row:List Ln):Prop:=∃dx ah l,H p=some (.ins A.ic dx (PV ah l))/\BV H ah al/\pO A H l row
theorem E1.same{A:Ad}{H H':Hp}{p:Addr}{al row:List Ln}(x:E1 A H p al row)(s:gg H H'):E1 A H' p al row:=by
 obtain⟨dx,ah,l,h1,h2,h3⟩:=x
 exact⟨dx,ah,l,s _ _ h1,h2.same s,h3.same s⟩
section
variable{P:Program}{w:World}{K:Qqy}{mg:Qqx}{base:Heap}{A:Ad}
def Rc(A:Ad):Sp:=λvs H Q _=>∃(p dx:Addr)(a b c d:V),vs=[.ref p,a,b,c,d]/\H p=some (.ins A.hX dx [])/\∀H',(∀x,x≠p->H' x=H x)->H' p=some (.ins A.hX dx (LA a b c d))->Q .jb H'
theorem B0(T:Txt mg)(O:Ok K mg A):iq P w K mg base lN 1 A.mT A.qH ["self","name","text","upper_name","lower_name"] (Rc A):=by
 refine O.tO.f.pR wc λjv A0 outer s H vs Q E hr h=>?_
 obtain⟨p,dx,a,b,c,d,rfl,hp,k⟩:=h
 refine⟨_,(c_ (lj (pv 0) (pv 1) rfl)
  (c_ (lj (pv 0) (pv 2) rfl)
  (c_ (lj (pv 0) (pv 3) rfl)
  (eV (lj (pv 0) (pv 4) rfl))))),?_⟩
 refine PJ ?_;intro _ _ _
 refine⟨_,rfl,_,rfl,p,A.hX,dx,_,rfl,hp,O.iO,O.hZ,(by show 0<1000;decide),?_⟩
 refine⟨_,rfl,_,rfl,p,A.hX,dx,_,rfl,a_,O.iO,O.jI,(by show 1<1000;decide),?_⟩
 refine⟨_,rfl,_,rfl,p,A.hX,dx,_,rfl,a_,O.iO,O.iD,(by show 2<1000;decide),?_⟩
 refine⟨_,rfl,_,rfl,p,A.hX,dx,_,rfl,a_,O.iO,O.iE,(by show 3<1000;decide),?_⟩
 exact k _ (λx hx=>by rw[de hx,de hx,de hx,de hx]) (Eq.trans a_ (aaQ (λl=>some (HO.ins A.hX dx l)) (Ol a b c d)))
def Rf(A:Ad):Sp:=λvs H Q _=>∃(p dx:Addr)(a b c d e:V),vs=[.ref p,a,b,c,d,e]/\H p=some (.ins A.hV dx [])/\∀H',(∀x,x≠p->H' x=H x)->H' p=some (.ins A.hV dx (Ku a b c d e))->Q .jb H'
theorem Ar(T:Txt mg)(O:Ok K mg A):iq P w K mg base lN 1 A.me A.pj ["self","name","file","puts","cuts","other"] (Rf A):=by
 refine O.rF.f.pR uV λjv A0 outer s H vs Q E hr h=>?_
 obtain⟨p,dx,a,b,c,d,e,rfl,hp,k⟩:=h
 refine⟨_,(c_ (lj (pv 0) (pv 1) rfl)
  (c_ (lj (pv 0) (pv 2) rfl)
  (c_ (lj (pv 0) (pv 3) rfl)
  (c_ (lj (pv 0) (pv 4) rfl)
  (eV (lj (pv 0) (pv 5) rfl)))))),?_⟩
 refine ME ?_;intro _ _ _ _
 refine⟨_,rfl,_,rfl,p,A.hV,dx,_,rfl,hp,O.i6,O.iT,(by show 0<1000;decide),?_⟩
 refine⟨_,rfl,_,rfl,p,A.hV,dx,_,rfl,a_,O.i6,O.jl,(by show 1<1000;decide),?_⟩
 refine⟨_,rfl,_,rfl,p,A.hV,dx,_,rfl,a_,O.i6,O.jK,(by show 2<1000;decide),?_⟩
 refine⟨_,rfl,_,rfl,p,A.hV,dx,_,rfl,a_,O.i6,O.jL,(by show 3<1000;decide),?_⟩
 refine⟨_,rfl,_,rfl,p,A.hV,dx,_,rfl,a_,O.i6,O.iW,(by show 4<1000;decide),?_⟩
 exact k _ (λx hx=>by rw[de hx,de hx,de hx,de hx,de hx]) (Eq.trans a_ (aaQ (λl=>some (HO.ins A.hV dx l)) (Om a b c d e)))
def LH(A:Ad):Sp:=λvs H Q _=>∃(p dx a:Addr)(ps:List Pt)(f:Str),vs=[.ref p,.ref a,.str f]/\H p=some (.ins A.ic dx [])/\wD A H a ps/\Small ps/\
 ((gk ps f).map (·.nm)).Nodup/\p0 (gk ps f)/\IU (gk ps f)/\
 ∀(H':Hp),(∀b o,H b=some o->b≠p->H' b=some o)->E1 A H' p (gk ps f) (rowOf (Ah (gk ps f)) (iZ ps f))->Q .jb H'
theorem kI.off{H H':Hp}{p C dx:Addr}{fs:List (Str×V)}{v:V}{n:Nm}(x:kI H v n)(hp:H p=some (.ins C dx fs))(s:∀b o,H b=some o->b≠p->H' b=some o):kI H' v n:=by
 obtain⟨t,e,h⟩:=x
 exact⟨t,e,s _ _ h (jc h hp (λz=>by cases z))⟩
theorem CN.off{H H':Hp}{p C dx:Addr}{fs:List (Str×V)}{v:V}{n:Option Nm}(x:CN H v n)(hp:H p=some (.ins C dx fs))(s:∀b o,H b=some o->b≠p->H' b=some o):CN H' v n:=by
 cases n with
 | none=>exact x
 | some n=>exact kI.off x hp s
theorem lP.off{H H':Hp}{p C dx a:Addr}{fs:List (Str×V)}{l:Ln}(x:lP A H a l)(hp:H p=some (.ins C dx fs))(hf:fs.length<2)(s:∀b o,H b=some o->b≠p->H' b=some o):lP A H' a l:=by
 obtain⟨WC,vn,vu,vl,h,h1,h2,h3⟩:=x
 have:a≠p:=λz=>by
  rw[z,hp] at h
  have e:=aal h
  injection e with _ _ e
  rw[e] at hf
  exact absurd hf (by unfold LA;simp)
 exact⟨WC,vn,vu,vl,s _ _ h this,h1.off hp s,h2.off hp s,h3.off hp s⟩
theorem pO.off{H H':Hp}{p C dx a:Addr}{fs:List (Str×V)}{ls:List Ln}(x:pO A H a ls)(hp:H p=some (.ins C dx fs))(hf:fs.length<2)(s:∀b o,H b=some o->b≠p->H' b=some o):pO A H' a ls:=by
 obtain⟨as,h,q⟩:=x
 exact⟨as,s _ _ h (jc h hp (λz=>by cases z)),Paired.j0 q λ_ _ z=>z.off hp hf s⟩
theorem x8.off{H H':Hp}{p C dx a:Addr}{fs:List (Str×V)}{ns:List Nm}(x:x8 H a ns)(hp:H p=some (.ins C dx fs))(s:∀b o,H b=some o->b≠p->H' b=some o):x8 H' a ns:=by
 obtain⟨as,h,q⟩:=x
 exact⟨as,s _ _ h (jc h hp (λz=>by cases z)),Paired.j0 q λ_ _ z=>z.off hp s⟩
theorem pP.off{H H':Hp}{p C dx a:Addr}{fs:List (Str×V)}{pt:Pt}(x:pP A H a pt)(hp:H p=some (.ins C dx fs))(hf:fs.length<2)(s:∀b o,H b=some o->b≠p->H' b=some o):pP A H' a pt:=by
 obtain⟨WC,vf,pu,cu,vo,h,h1,h2,h3,h4⟩:=x
 have:a≠p:=λz=>by
  rw[z,hp] at h
  have e:=aal h
  injection e with _ _ e
  rw[e] at hf
  exact absurd hf (by unfold Ku;simp)
 exact⟨WC,vf,pu,cu,vo,s _ _ h this,h1,h2.off hp hf s,h3.off hp s,h4⟩
theorem wD.off{H H':Hp}{p C dx a:Addr}{fs:List (Str×V)}{ps:List Pt}(x:wD A H a ps)(hp:H p=some (.ins C dx fs))(hf:fs.length<2)(s:∀b o,H b=some o->b≠p->H' b=some o):wD A H' a ps:=by
 obtain⟨as,h,q⟩:=x
 exact⟨as,s _ _ h (jc h hp (λz=>by cases z)),Paired.j0 q λ_ _ z=>z.off hp hf s⟩
theorem BV.off{H H':Hp}{p C dx a:Addr}{fs:List (Str×V)}{ls:List Ln}(x:BV H a ls)(hp:H p=some (.ins C dx fs))(s:∀b o,H b=some o->b≠p->H' b=some o):BV H' a ls:=by
 obtain⟨kvs,e1,e2⟩:=x
 refine⟨kvs,s _ _ e1 (jc e1 hp (λz=>by cases z)),λn hn=>?_⟩
 obtain⟨b,dk,z1,z2,z3⟩:=e2 n hn
 exact⟨b,dk,z1,s _ _ z2 (jc z2 hp (λz=>by cases z)),z3⟩
theorem As(T:Txt mg)(O:Ok K mg A):iq P w K mg base lN 3 A.mf A.pE ["self","patches","file"] (LH A):=by
 have Ed:=@BW P w K mg base A T O
 have sj:=@vy P w K mg base A T O
 have mr:=@oI P w K mg base A T O
 have Ka:=@G8 P w K mg base A T O
 refine O.rJ.f.pR uW λjv A0 outer s H vs Q E hr h=>?_
 obtain⟨p,dx,a,ps,f,rfl,hp,ha,sm,nd,cl,tp,q⟩:=h
 have SG:z7 (gk ps f).length:=aao (qp ps f) sm.iF
 have x_:=jB ps f
 refine⟨_,(c_ (lj (pv 0) (n_ O.A1 Ed hr (ak (n_ O.wB sj hr (ak (pv 1) (ak (pv 2) d_))) d_)) rfl)
   (eV (lj (pv 0) (n_ O.Jf Ka hr (ak (n_ O.n4 mr hr (ak (pv 1) (ak (pv 2) d_))) (ak (hU (pv 0) rfl) d_))) rfl))),?_⟩
 refine Kt ?_;intro _
 refine⟨_,rfl,_,rfl,a,ps,f,rfl,ha,sm,λl1 H1 s1 Ue SH=>?_⟩
 refine⟨l1,_,rfl,SH,SG,nd,cl,tp,λah H2 s2 Ug SI=>?_⟩
 have WD:gg H H2:=s1.trans s2
 have yp:=WD p _ hp
 refine⟨_,rfl,p,A.ic,dx,_,rfl,yp,O.j8,O.jt,(by show 0<1000;decide),?_⟩
 have s3:∀b o,H2 b=some o->b≠p->(upd H2 p (.ins A.ic dx (jz "ahead" (.ref ah) []))) b=some o:=λb o e n=>by rw[de n];exact e
 have ha3:=(ha.same WD).off yp (by decide) s3
 have SJ:=SI.off yp s3
 refine⟨_,rfl,_,rfl,a,ps,f,rfl,ha3,sm,λst H4 s4 Uh SK=>?_⟩
 have So:H4 p=some (.ins A.ic dx (jz "ahead" (.ref ah) [])):=s4 p _ a_
 refine⟨_,rfl,p,A.ic,dx,_,_,rfl,So,O.j8,O.jt,G9 ah,st,ah,iZ ps f,gk ps f,rfl,SK,SJ.same s4,aao x_.length_le SG,(x_.map _).nodup nd,λl hl=>Vi (x_.subset hl),tp,λl H5 s5 Ui h51=>?_⟩
 have SM:=s5 p _ So
 refine⟨_,rfl,p,A.ic,dx,_,rfl,SM,O.j8,O.iw,(by show 1<1000;decide),?_⟩
 have s6:∀b o,H5 b=some o->b≠p->(upd H5 p (.ins A.ic dx (jz "lines" (.ref l) (jz "ahead" (.ref ah) [])))) b=some o:=λb o e n=>by rw[de n];exact e
 refine q _ (λb o hb nb=>?_) ⟨dx,ah,l,Eq.trans a_ (aaQ (λl=>some (HO.ins A.ic dx l)) (Oo ah l)),?_,?_⟩
 ·rw[de nb]
  refine s5 b o (s4 b o ?_)
  rw[de nb]
  exact WD b o hb
 ·exact((SJ.same s4).same s5).off SM s6
 ·exact h51.off SM (by show 1<2;decide) s6
open Classical in
def Vo(A:Ad):Sp:=λvs H Q _=>∃(p:Addr)(al row:List Ln)(i j:Nat)(a b:Ln),vs=[.ref p,.int i,.int j]/\E1 A H p al row/\row[i]?=some a/\row[j]?=some b/\b.nm∈al.map (·.nm)/\Q (.bl (decide (Ah al a.nm b.nm))) H
open Classical in
theorem DN(T:Txt mg)(O:Ok K mg A):iq P w K mg base lN 1 A.pF A.pG ["self","first","second"] (Vo A):=by
 refine O.rK.f.pR uX λjv A0 outer s H vs Q E hr h=>?_
 obtain⟨p,al,row,i,j,x,y,rfl,⟨dx,ah,l,h1,⟨kh,h2,h3⟩,⟨as,h4,h5⟩⟩,hi,hj,hy,q⟩:=h
 obtain⟨b,hb,dxb,vn,vu,vl,g1,⟨t,rfl,g2⟩,g3,g4⟩:=k_ h5 hi
 obtain⟨c,hc,dxc,vn',vu',vl',k1,⟨t',rfl,k2⟩,k3,k4⟩:=k_ h5 hj
 obtain⟨e,dk,z1,z2,z3⟩:=h3 y.nm hy
 have SN:(as.map V.ref)[i]?=some (.ref b):=by rw[YI,hb];rfl
 have hcj:(as.map V.ref)[j]?=some (.ref c):=by rw[YI,hc];rfl
 refine⟨_,(eV (ia (Nk (pV (by exact iS hr) (hU (vY (hU (pv 0) rfl) (pv 1)) rfl) (Af hr (hU (pv 0) rfl) (hU (vY (hU (pv 0) rfl) (pv 2)) rfl)))))),?_⟩
 refine⟨_,rfl,p,A.ic,dx,_,_,rfl,h1,O.j8,O.iw,ml ah l,_,rfl,l,_,_,_,rfl,rfl,h_.of h4,ig rfl SN,b,A.hX,dxb,_,_,rfl,g1,O.iO,O.hZ,i0,?_⟩
 refine⟨_,rfl,p,A.ic,dx,_,_,rfl,h1,O.j8,O.jt,EZ ah l,_,rfl,p,A.ic,dx,_,_,rfl,h1,O.j8,O.iw,ml ah l,_,rfl,l,_,_,_,rfl,rfl,h_.of h4,ig rfl hcj,c,A.hX,dxc,_,_,rfl,k1,O.iO,O.hZ,i0,ah,.ref e,rfl,?_,e,_,rfl,jg.t (k:=nk x.nm) z2 g2,?_⟩
 ·have:=jg.t (k:=nk y.nm) h2 k2
  rw[z1] at this
  exact this
 ·have e2:(iA dk (nk x.nm)).isSome=decide (Ah al x.nm y.nm):=by
   rw[abI,abe];exact z3 x.nm
  rw[e2]
  exact q
def Vp(A:Ad):Sp:=λvs H Q _=>∃(p:Addr)(al row:List Ln),vs=[.ref p]/\E1 A H p al row/\(∀l∈row,l.nm∈al.map (·.nm))/\z7 row.length/\∀r H' vs,gg H H'->H r=none->H' r=some (.lst vs)->i9 H' (kl (Ah al) row) vs->Q (.ref r) H'
open Classical in
noncomputable def wG(lt:Nm->Nm->Prop)(row:List Ln)(i m:Nat):List (Nat×Nat):=((List.range' (i+1) m).filter λj=>decide (¬ltAt lt row i j)).map λj=>(i,j)
noncomputable def DO(lt:Nm->Nm->Prop)(row:List Ln)(i:Nat):List (Nat×Nat):=(List.range i).flatMap λi=>wG lt row i (row.length-(i+1))
theorem Jq(lt:Nm->Nm->Prop)(row:List Ln):DO lt row row.length=kl lt row:=rfl
theorem A8(lt:Nm->Nm->Prop)(row:List Ln)(i:Nat):DO lt row (i+1)=DO lt row i++wG lt row i (row.length-(i+1)):=by
 unfold DO
 rw[List.range_succ,aa3,aaF,abC,aaJ]
theorem G_(lt:Nm->Nm->Prop)(row:List Ln)(i m:Nat)(h:¬ltAt lt row i (i+1+m)):wG lt row i (m+1)=wG lt row i m++[(i,i+1+m)]:=by
 unfold wG
 rw[show m+1=m+1 from rfl,<-List.range'_append_1 (s:=i+1) (m:=m) (n:=1),aaH,aar]
 congr 1
 show List.map _ (List.filter _ [i+1+m])=_
 rw[aad (by simpa using h)]
 rfl
theorem E2(lt:Nm->Nm->Prop)(row:List Ln)(i m:Nat)(h:ltAt lt row i (i+1+m)):wG lt row i (m+1)=wG lt row i m:=by
 unfold wG
 rw[<-List.range'_append_1 (s:=i+1) (m:=m) (n:=1),aaH,aar]
 show _++List.map _ (List.filter _ [i+1+m])=_
 rw[aaf (by simpa using h)]
 simp
theorem DP(lt:Nm->Nm->Prop)(row:List Ln)(i m:Nat):(wG lt row i m).length<=m:=by
 unfold wG
 rw[QU]
 exact aao (aaM _ _) (by rw[List.length_range'];exact Vb _)
theorem DQ(lt:Nm->Nm->Prop)(row:List Ln):∀i,(DO lt row i).length<=i*row.length
 | 0=>aaI _
 | i+1=>by
  rw[A8,Vh,Nat.succ_mul]
  have:=DQ lt row i
  have:=DP lt row i (row.length-(i+1))
  omega
open Classical in
theorem rV(T:Txt mg)(O:Ok K mg A):iq P w K mg base lN 2 A.nj A.nq ["self"] (Vp A):=by
 have wR:=@DN P w K mg base A T O
 refine O.jH.f.pR jE λjv A0 outer s H vs Q E hr h=>?_
 obtain⟨p,al,row,rfl,S,WE,kL,q⟩:=h
 obtain⟨dx,ah,l,h1,h2,⟨as,h4,h5⟩⟩:=id S
 have hlen:=aaj h5
 have Ec:row.length<=4000:=kL
 have sz:sizeLine=16777216:=aaE
 refine⟨_,(c_ (lg 1 jE (ji d_))
   (c_ (iI aap rfl (jS rfl T.jQ (ak (hG gq (by rfl) T.jW aaz (ak (hU (pv 0) rfl) d_)) d_)) (uc 2 jE) (eV (iI aap rfl (sv rfl T.jQ (ak (gn ik (pv 2) e_) (ak (hG gq (by rfl) T.jW aaz (ak (hU (pv 0) rfl) d_)) d_))) (uc 3 jE) (eV (iJ (mH (nH (IP (pv 0) O.j8 O.rK wR hr (ak (pv 2) (ak (pv 3) d_))))) (eV (iu (k7 aaq aax aay iP (pv 1) (ak (kF (ak (pv 2) (ak (pv 3) d_))) d_)))) ie)))))
   (eV (ia (pv 1))))),?_⟩
 refine Em ?_;intro _ _
 refine⟨L2.kL,λr qS=>?_⟩
 have s1:gg H (upd H r (.lst [])):=(gg.refl H).new qS
 have el:((as.map V.ref).length:Int)=(row.length:Int):=by rw[QU,hlen]
 refine⟨_,rfl,p,A.ic,dx,_,_,rfl,s1 _ _ h1,O.j8,O.iw,ml ah l,l,_,rfl,.inl (h_.of (s1 _ _ h4)),_,rfl,by omega,by omega,?_⟩
 rw[el,abX]
 let Jv:=λ(i:Nat) (Z:St) (H2:Hp)=>∃(v2 v3:Option V)(vs:List V),Z=[rr p,rr r,v2,v3]/\gg H H2/\H2 r=some (.lst vs)/\i9 H2 (DO (Ah al) row i) vs
 refine j2 Jv ⟨none,none,[],rfl,s1,a_,.nil⟩ ?_ ?_
 ·rintro i Z H2 hi ⟨v2,v3,vs,rfl,s2,k1,k2⟩
  rw[show(0:Int)+(i:Int)=(i:Int) by omega]
  refine⟨_,rfl,_,_,rfl,rfl,_,rfl,p,A.ic,dx,_,_,rfl,s2 _ _ h1,O.j8,O.iw,ml ah l,l,_,rfl,.inl (h_.of (s2 _ _ h4)),_,_,rfl,⟨by omega,by omega,by omega,by omega⟩,?_⟩
  rw[el,show((row.length:Int)-((i:Int)+1)).toNat=row.length-(i+1) by omega]
  let Jv:=λ(m:Nat) (Z:St) (H3:Hp)=>∃(v3:Option V)(vs:List V),Z=[rr p,rr r,ri i,v3]/\gg H H3/\H3 r=some (.lst vs)/\i9 H3 (DO (Ah al) row i++wG (Ah al) row i m) vs
  refine j2 Jv ⟨v3,vs,rfl,s2,k1,by unfold wG;simpa using k2⟩ ?_ ?_
  ·rintro m Z H3 hm ⟨v3,vs,rfl,s3,k1,k2⟩
   rw[show(i:Int)+1+(m:Int)=((i+1+m:Nat):Int) by omega]
   have hj:i+1+m<row.length:=by omega
   have ei:row[i]?=some row[i]:=R7 hi
   have ej:row[i+1+m]?=some row[i+1+m]:=R7 hj
   have uy:vs.length=(DO (Ah al) row i++wG (Ah al) row i m).length:=(aaj k2).symm
   have SO:=DQ (Ah al) row i
   have O9:=DP (Ah al) row i m
   have hb3:i*row.length<=4000*4000:=Nat.mul_le_mul (by omega) Ec
   rw[Vh] at uy
   refine⟨_,rfl,p,dx,_,rfl,s3 _ _ h1,Oq ah l,_,rfl,_,rfl,p,al,row,i,i+1+m,_,_,rfl,S.same s3,ei,ej,WE _ (List.getElem_mem hj),_,rfl,?_⟩
   have j9:ltAt (Ah al) row i (i+1+m)↔Ah al row[i].nm row[i+1+m].nm:=by
    constructor
    ·rintro⟨a,b,ha,hb,z⟩
     rw[ei] at ha;rw[ej] at hb;cases ha;cases hb
     exact z
    ·exact λz=>⟨_,_,ei,ej,z⟩
   by_cases hc:Ah al row[i].nm row[i+1+m].nm
   ·rw[V7 hc]
    exact j_ ⟨_,vs,rfl,s3,k1,by rw[E2 _ _ _ _ (j9.mpr hc)];exact k2⟩
   ·rw[aai hc]
    refine oM ?_
    refine⟨_,rfl,.inl ⟨rfl,_,h_.of k1⟩,_,rfl,_,rfl,L2.kL,λt ht=>?_⟩
    have Zp:r≠t:=gc k1 ht
    refine⟨r,vs,_,rfl,rfl,by rw[de Zp];exact k1,by omega,?_⟩
    refine⟨_,vs++[.ref t],rfl,(s3.new ht).upd qS,a_,?_⟩
    rw[G_ _ _ _ _ (λz=>hc (j9.mp z)),<-aaK]
    refine ix (Paired.j0 k2 λa v ⟨b,e,hb⟩=>⟨b,e,?_⟩) ⟨t,rfl,?_⟩
    ·rw[de (jc hb k1 (by intro z;cases z)),de (gc hb ht)];exact hb
    ·rw[de Zp.symm,a_]
  ·rintro Z H3 ⟨v3,vs,rfl,s3,k1,k2⟩
   exact⟨_,_,vs,rfl,s3,k1,by rw[A8];exact k2⟩
 ·rintro Z H2 ⟨v2,v3,vs,rfl,s2,k1,k2⟩
  exact⟨_,rfl,q r H2 vs s2 qS k1 (by rw[Jq] at k2;exact k2)⟩
theorem CN.upd{H:Hp}{v:V}{n:Option Nm}{x:Addr}{o o':HO}(h:CN H v n)(hx:H x=some o')(ht:∀xs,o'≠.tup xs):CN (L2.upd H x o) v n:=by
 cases n with
 | none=>exact h
 | some n=>exact kI.upd h hx ht
theorem lP.upd{A:Ad}{H:Hp}{a:Addr}{l:Ln}{x:Addr}{o o':HO}(h:lP A H a l)(hx:H x=some o')(ht:∀xs,o'≠.tup xs)(hi:∀C dx fs,o'≠.ins C dx fs):lP A (L2.upd H x o) a l:=by
 obtain⟨dx,vn,vu,vl,h0,h1,h2,h3⟩:=h
 exact⟨dx,vn,vu,vl,by rw[de (jc h0 hx (λz=>hi _ _ _ z.symm))];exact h0,h1.upd hx ht,h2.upd hx ht,h3.upd hx ht⟩
theorem E3{A:Ad}{H:Hp}{as:List Addr}{ls:List Ln}(p:Paired (lP A H) as ls){i:Nat}{l:Ln}(h:ls[i]?=some l):∃b,(as.map V.ref)[i]?=some (.ref b)/\lP A H b l:=by
 obtain⟨b,hb,z⟩:=k_ p h
 exact⟨b,by rw[YI,hb];rfl,z⟩
def Au(p:Pt)(k:Nat):List (Option Nm):=p.jx.map some++(p.iF.take k).flatMap λl=>[l.up,l.lo]
theorem named_eq(p:Pt):named p=(Au p p.iF.length).filterMap id:=by
 unfold named Au
 rw[aav,abQ,List.filterMap_map]
 congr 1
 ·induction p.jx with
  | nil=>rfl
  | cons x r ih=>rw[abH];show _=x::_;rw[<-ih]
 ·induction p.iF with
  | nil=>rfl
  | cons x r ih=>
   rw[aaF,aaF,abQ,ih]
   congr 1
   cases x.up<;>cases x.lo<;>rfl
theorem zr(p:Pt)(k:Nat):(Au p k).length<=p.jx.length+2*k:=by
 unfold Au
 rw[Vh,QU]
 have:∀(ls:List Ln),(ls.flatMap λl=>[l.up,l.lo]).length=2*ls.length:=λls=>by
  induction ls with
  | nil=>rfl
  | cons x r ih=>rw[aaF,Vh,ih];simp only [W7,acs];omega
 rw[this,aaA]
 omega
def LI(A:Ad):Sp:=λvs H Q _=>∃(a:Addr)(p:Pt),vs=[.ref a]/\pP A H a p/\z7 p.iF.length/\z7 p.jx.length/\∀r H',gg H H'->H r=none->x8 H' r (named p)->Q (.ref r) H'
theorem vB(T:Txt mg)(O:Ok K mg A):iq P w K mg base lN 1 A.pk A.pq ["patch"] (LI A):=by
 refine O.rG.f.pR j6 λjv A0 outer s H vs Q E hr h=>?_
 obtain⟨a,p,rfl,⟨dx,vf,pu,cu,vo,g1,g2,⟨as,g3,Se⟩,⟨cs,g4,P6⟩,g5⟩,Ft,Ee,q⟩:=h
 have hlen:=aaj Se
 have M0:=aaj P6
 have M7:p.iF.length<=4000:=Ft
 have Kb:p.jx.length<=4000:=Ee
 have sz:sizeLine=16777216:=aaE
 refine⟨_,(c_ (lg 1 j6 (lV uI (by rfl) T.ug abr (ak (hU (pv 0) rfl) d_)))
   (c_ (iI aap rfl (iH (hU (pv 0) rfl)) (uc 2 j6) (c_ (iu (k7 aaq aax aay iP (pv 1) (ak (hU (pv 2) rfl) d_)))
   (eV (iu (k7 aaq aax aay iP (pv 1) (ak (hU (pv 2) rfl) d_))))))
   (eV (ia (vT pe (f_ kB).names [3] rfl (iH (pv 1)) rfl (by decide+kernel) (λ_ _ _ _=>(iK (i:=3) j6.nd rfl (Or.inl rfl))) (λ_ _ _ _=>⟨_,oO (jw (nu (pv 3))),by(try simp only [kR]);rfl⟩) (λ_ _ _ _=>Bz (pv 3))))))),?_⟩
 refine Em ?_;intro _ _
 refine⟨_,rfl,a,A.hV,dx,_,_,rfl,g1,O.i6,O.jL,DE,cu,cs,rfl,.inl (h_.of g4),λl hl=>?_⟩
 have s1:gg H (upd H l (.lst cs)):=(gg.refl H).new hl
 dsimp only [o3];refine NW ?_;intro _
 let Jv:=λ(i:Nat) (Z:St) (H2:Hp)=>∃(v:Option V)(xs:List V),Z=[rr a,rr l,v,none]/\gg H H2/\H2 l=some (.lst xs)/\Paired (CN H) xs (Au p i)
 refine⟨_,rfl,a,A.hV,dx,_,_,rfl,s1 _ _ g1,O.i6,O.jK,DD,pu,rfl,⟨_,h_.of (s1 _ _ g3)⟩,jy (K:=K) (a:=pu) (xs:=as.map V.ref) Jv
  ⟨none,cs,rfl,s1,a_,?_⟩ (by rintro _ _ _ _ ⟨_,_,_,s2,_⟩;exact h_.of (s2 _ _ g3)) ?_ ?_⟩
 ·unfold Au
  rw[abU,abC,aaJ]
  clear M0 Kb Ee q g4 s1
  generalize p.jx=ms at P6
  induction P6 with
  | nil=>exact .nil
  | cons f t ih=>exact .cons f ih
 ·rintro i v Z H2 hx ⟨v0,xs,rfl,s2,h1,h2⟩
  obtain⟨b,hb,rfl⟩:=jR hx
  obtain⟨ln,uy,Qc,vn,vu,vl,k1,k2,k3,k4⟩:=il Se hb
  have hi:i<p.iF.length:=(List.getElem?_eq_some_iff.mp uy).1
  have hxl:xs.length<=p.jx.length+2*i:=by rw[aaj h2];exact zr p i
  have e:Au p (i+1)=Au p i++[ln.up]++[ln.lo]:=by
   unfold Au
   rw[take_snoc uy,aa3,aaF,abC,aaK,aaK]
   rfl
  refine⟨_,rfl,.inl ⟨rfl,_,h_.of h1⟩,_,rfl,b,A.hX,Qc,_,_,rfl,s2 _ _ k1,O.iO,O.iD,EV,l,_,_,rfl,rfl,h1,by omega,?_⟩
  have s3:gg H (upd H2 l (.lst (xs++[vu]))):=s2.upd hl
  refine⟨_,rfl,.inl ⟨rfl,_,h_.of a_⟩,_,rfl,b,A.hX,Qc,_,_,rfl,s3 _ _ k1,O.iO,O.iE,EW,l,_,_,rfl,rfl,a_,by rw[Vh];show xs.length+1<_;omega,?_⟩
  refine⟨_,_,rfl,s3.upd hl,a_,?_⟩
  rw[e]
  exact ix (ix h2 k3) k4
 ·rintro Z H2 ⟨v0,xs,rfl,s2,h1,h2⟩
  have e0:(as.map V.ref).length=p.iF.length:=by rw[QU,hlen]
  rw[e0] at h2
  have hxl:xs.length<=p.jx.length+2*p.iF.length:=by rw[aaj h2];exact zr p _
  refine⟨_,rfl,l,rfl,⟨_,h_.of h1⟩,ky (K:=K) (a:=l) (xs:=xs) (by omega) (λi ys Z H4=>∃(v3:Option V),Z=[rr a,rr l,v0,v3]/\H4=H2/\ys.length<=i/\Paired (kI H) ys (((Au p p.iF.length).take i).filterMap id))
   ⟨none,rfl,rfl,Vb _,.nil⟩ (by rintro _ _ _ _ _ ⟨_,_,e,e3,_⟩;subst e;exact⟨h_.of h1,e3⟩) ?_ ?_⟩
  ·rintro i v ys Z H4 hx ⟨v3,rfl,rfl,e3,h6⟩
   obtain⟨o,ho,hv⟩:=il h2 hx
   refine⟨_,rfl,_,rfl,?_⟩
   rw[take_snoc ho,abQ]
   cases o with
   | none=>
    rw[show v=V.jb from hv]
    exact⟨_,rfl,rfl,by omega,by simpa using h6⟩
   | some m=>
    obtain⟨t,rfl,ht⟩:=(show kI H v m from hv)
    exact⟨_,rfl,_,rfl,rfl,PR,ix h6 ⟨t,rfl,ht⟩⟩
  ·rintro ys Z H4 ⟨v3,rfl,rfl,e3,h6⟩ r qS
   rw[aaj h2,aav,<-named_eq] at h6
   have s5:=s2.new (o:=.lst ys) qS
   exact q r _ s5 (s2.free qS) ⟨ys,a_,Paired.j0 h6 λ_ _ z=>z.same s5⟩
def Ot(A:Ad):Sp:=λvs H Q _=>∃(a:Addr)(p:Pt),vs=[.ref a]/\pP A H a p/\z7 p.iF.length/\z7 p.jx.length/\∀r H',gg H H'->H r=none->H' r=some (.lst (gi (iz p)))->Q (.ref r) H'
theorem A9(p:Pt):(named p).length<=p.jx.length+2*p.iF.length:=by
 rw[named_eq]
 exact aao (List.length_filterMap_le _ _) (zr p _)
theorem rW(T:Txt mg)(O:Ok K mg A):iq P w K mg base lN 2 A.nc A.ni ["patch"] (Ot A):=by
 have wU:=@vB P w K mg base A T O
 refine O.oH.f.pR kr λjv A0 outer s H vs Q E hr h=>?_
 obtain⟨a,p,rfl,pa,Ft,Ee,q⟩:=h
 obtain⟨dx,vf,pu,cu,vo,g1,g2,g3,g4,g5⟩:=id pa
 have M7:p.iF.length<=4000:=Ft
 have Kb:p.jx.length<=4000:=Ee
 have sz:sizeLine=16777216:=aaE
 have P_:=A9 p
 refine⟨_,(c_ (Bw (j:=1) m_ (f_ jO).names [2] kr.nd rfl rfl rfl (iH (n_ O.rG wU hr (ak (pv 0) d_))) rfl (by decide+kernel) (λ_ _ _ _=>(iK (i:=2) kr.nd rfl (Or.inl rfl))) (λ_ _ _ _=>⟨_,oO (ij FE (jA lW (pv 2) e_ (λ_ _=>rfl)) (hU (pv 0) rfl) (iy _)),by(try simp only [kR]);rfl⟩) (λ_ _ _ _=>Bz (jA lW (pv 2) e_ (λ_ _=>rfl))))
   (c_ (iJ (jw (nu (hU (pv 0) rfl))) (eV (iu (k7 aaq aax aay iP (pv 1) (ak (hU (pv 0) rfl) d_)))) ie)
   (eV (ia (pv 1))))),?_⟩
 refine Em ?_;intro _ _
 refine⟨_,rfl,a,p,rfl,pa,Ft,Ee,λn H1 s1 Zq ⟨ns,Zr,OS⟩=>?_⟩
 have WG:=aaj OS
 let Jv:=λ(i:Nat) (ys:List V) (Z:St) (H4:Hp)=>∃(v2:Option V)(zs:List Str),Z=[rr a,none,v2]/\H4=H1/\ys=gi zs/\zs.length<=i/\zs=(((named p).take i).filter λn=>n.1≠p.nm).map (·.1)
 refine⟨n,rfl,⟨_,h_.of Zr⟩,ky (K:=K) (a:=n) (xs:=ns) (by omega) Jv
  ⟨none,[],rfl,rfl,rfl,Vb _,rfl⟩ (by rintro _ _ _ _ _ ⟨_,zs,_,e,e2,e3,_⟩;subst e e2;exact⟨h_.of Zr,by rw[QU];exact e3⟩) ?_ ?_⟩
 ·rintro i v ys Z H4 hx ⟨v2,zs,rfl,rfl,rfl,e3,e4⟩
  obtain⟨m,hm,t,rfl,ht⟩:=il OS hx
  have SQ:GG ((nk m).map kV) 0=some (V.str m.1):=ig (j:=0) rfl rfl
  refine⟨_,rfl,t,_,0,_,rfl,rfl,qT.of ht,SQ,_,rfl,a,A.hV,dx,_,_,rfl,s1 _ _ g1,O.i6,O.iT,rO,rfl,_,rfl,?_⟩
  have ed:decide (V.str m.1=V.str p.nm)=decide (m.1=p.nm):=by
   by_cases e:m.1=p.nm
   ·rw[V7 e,V7 (aaQ V.str e)]
   ·rw[aai e,aai λz=>e (V.str.inj z)]
  rw[ed]
  subst e4
  by_cases e:m.1=p.nm
  ·rw[V7 e]
   refine j_ ⟨_,_,rfl,rfl,rfl,by omega,?_⟩
   rw[take_snoc hm,aaH,aaf (by simpa using e)]
   simp
  ·rw[aai e]
   refine oM ⟨_,rfl,t,_,0,_,rfl,rfl,qT.of ht,SQ,_,_,rfl,rfl,i3 _ _,by rw[Vh];show _+1<=_;omega,?_⟩
   rw[take_snoc hm,aaH,aad (by simpa using e)]
   simp
 ·rintro ys Z H4 ⟨v2,zs,rfl,rfl,rfl,e3,e4⟩ r qS
  rw[WG,aav] at e4
  have s5:=s1.new (o:=.lst (gi zs)) qS
  refine⟨_,rfl,a,A.hV,dx,_,_,rfl,s5 _ _ g1,O.i6,O.iW,sF,_,rfl,?_⟩
  unfold iz at q
  rw[<-e4] at q
  cases ho:p.other with
  | none=>
   rw[ho] at g5 q
   rw[show vo=V.jb from g5]
   exact⟨_,rfl,q r _ s5 (s1.free qS) (by rw[a_];simp)⟩
  | some x=>
   rw[ho] at g5 q
   rw[show vo=V.str x from g5] at g1 ⊢
   refine⟨_,rfl,.inl ⟨rfl,_,h_.of a_⟩,_,rfl,a,A.hV,dx,_,_,rfl,s5 _ _ g1,O.i6,O.iW,sF,r,_,_,rfl,rfl,a_,by rw[QU];omega,?_⟩
   exact⟨_,rfl,q r _ (s5.upd (s1.free qS)) (s1.free qS) (by rw[a_];show _=some (HO.lst (gi (zs++[x])));rw[<-i3])⟩
def Rg(H:Hp)(a:Addr)(kn:Nat->Option Nm):Prop:=∃kvs:List (Key×V),H a=some (.dK kvs)/\∀s:Nat,match kn s with|some m=>∃v,iA kvs (Sum.inl (s:Int))=some v/\kI H v m|none=>iA kvs (Sum.inl (s:Int))=none
def Vq:Sp:=λvs H Q _=>∃(a:Addr)(n:Nat)(kn:Nat->Option Nm),vs=[.ref a,.int n]/\Rg H a kn/\n<=4000/\∀p H' xs,gg H H'->H p=none->H' p=some (.lst xs)->xs.length=n->(∀i v,xs[i]?=some v->CN H v (EO kn (n-1-i) i))->Q (.ref p) H'
theorem zt(T:Txt mg)(O:Ok K mg A):iq P w K mg base lN 1 A.tI A.tJ ["kept_names","size"] Vq:=by
 refine O.xJ.f.pR nR λjv A0 outer s H vs Q E hr h=>?_
 obtain⟨a,n,kn,rfl,⟨kvs,h1,h2⟩,hn,q⟩:=h
 have sz:sizeLine=16777216:=aaE
 refine⟨_,(c_ (lg 2 nR (gn ED (ji (ak vM d_)) (pv 1)))
   (c_ (iI aap rfl (vU rfl T.jQ (ak (gn yz (pv 1) e_) (ak (yy tY e_) (ak (yy tY e_) d_)))) (uc 3 nR) (eV (yu (yD (by exact iS hr) (pv 0) (gn ik (pv 3) e_) (vY (pv 2) (gn ik (pv 3) e_)) ⟨rfl,rfl,rfl,rfl⟩) (yt (pv 2) (pv 3) set_list))))
   (eV (ia (pv 2))))),?_⟩
 refine Em ?_;intro _ _
 refine⟨L2.kL,λl hl=>?_⟩
 refine⟨_,rfl,l,_,_,rfl,rfl,a_,by omega,by omega,by simp;omega,λp hp=>?_⟩
 have qP:p≠l:=λz=>by rw[z,a_] at hp;cases hp
 have Gq:H p=none:=by rw[de qP] at hp;exact hp
 have e0:(List.replicate (n:Int).toNat [V.jb]).flatten=List.replicate n V.jb:=by
  rw[abX]
  clear q hn
  induction n with
  | zero=>rfl
  | succ n ih=>rw[aa7,abY,ih,aa7];rfl
 rw[e0]
 have s1:gg H (upd (upd H l (.lst [V.jb])) p (.lst (List.replicate n V.jb))):=((gg.refl H).upd hl).upd Gq
 refine⟨_,rfl,_,_,rfl,rfl,_,rfl,_,rfl,_,_,rfl,⟨by omega,by omega,by omega,by omega⟩,?_⟩
 rw[show((n:Int)-2 - -1).toNat=n-1 by omega]
 let Jv:=λ(m:Nat) (Z:St) (H2:Hp)=>∃(v:Option V)(xs:List V),Z=[rr a,ri n,rr p,v]/\gg H H2/\H2 p=some (.lst xs)/\xs.length=n/\∀i v,xs[i]?=some v->n-1<=i+m->CN H v (EO kn (n-1-i) i)
 refine nI Jv ⟨none,_,rfl,s1,a_,by simp,λi v hv hi=>?_⟩ ?_ ?_
 ·have j9:i<n:=by have:=(List.getElem?_eq_some_iff.mp hv).1;simpa using this
  have:v=V.jb:=by
   have:=Xj hv
   exact List.eq_of_mem_replicate this
  rw[this,show n-1-i=0 by omega]
  exact rfl
 ·rintro m Z H2 hm ⟨v0,xs,rfl,s2,k1,k2,k3⟩
  obtain⟨j,hj⟩:∃j,j+m+2=n:=⟨n-2-m,by omega⟩
  rw[show(n:Int)-2+(m:Int) * -1=(j:Int) by omega]
  have hx:xs[j+1]?=some xs[j+1]:=R7 (by omega)
  refine⟨_,rfl,a,rfl,.inl ⟨_,.inl (s2 _ _ h1)⟩,_,rfl,_,_,rfl,rfl,_,rfl,_,rfl,_,_,rfl,rfl,p,_,_,_,rfl,rfl,h_.of k1,ig (j:=j+1) (by omega) hx,_,jg.k (k:=Sum.inl ((j:Int)+1)) (s2 _ _ h1),?_⟩
  refine⟨_,rfl,_,rfl,p,_,_,j,rfl,rfl,k1,yO rfl (by omega),?_⟩
  refine⟨_,_,rfl,s2.upd Gq,a_,by rw[ace];exact k2,λi v hv hi=>?_⟩
  by_cases e:i=j
  ·subst e
   rw[aa6 (by omega)] at hv
   have hv:=aal hv
   rw[<-hv,show n-1-i=(n-1-(i+1))+1 by omega]
   unfold EO
   have h3:=h2 (i+1)
   rw[show((i+1:Nat):Int)=(i:Int)+1 by omega] at h3
   cases hk:kn (i+1) with
   | none=>
    rw[hk] at h3
    rw[h3]
    exact k3 (i+1) _ hx (by omega)
   | some mm=>
    rw[hk] at h3
    obtain⟨u,z1,z2⟩:=h3
    rw[z1]
    exact z2
  ·rw[abc (λz=>e z.symm)] at hv
   exact k3 i v hv (by omega)
 ·rintro Z H2 ⟨v0,xs,rfl,s2,k1,k2,k3⟩
  exact⟨_,rfl,q p H2 xs s2 Gq k1 k2 λi v hv=>k3 i v hv (by omega)⟩
def Vr(K:Qqy)(A:Ad):Sp:=λvs H Q _=>∃(x:Str)(t a:Addr)(texts:List Str)(kn:Nat->Option Nm),vs=[.str x,.ref t,.ref a]/\h_ K H t (gi texts)/\(∀H',gg H H'->h_ K H' t (gi texts))/\Rg H a kn/\texts.length<=4000/\∀p H',gg H H'->H p=none->pO A H' p (ko x texts kn)->Q (.ref p) H'
theorem B1(T:Txt mg)(O:Ok K mg A):iq P w K mg base lN 3 A.xu A.xv ["patch","texts","kept_names"] (Vr K A):=by
 have Ay:=@zt P w K mg base A T O
 have ya:=@B0 P w K mg base A T O
 refine O.A2.f.pR jF λjv A0 outer s H vs Q E hr h=>?_
 obtain⟨x,t,a,texts,kn,rfl,_,ht,Zs,hn,q⟩:=h
 have sz:sizeLine=16777216:=aaE
 have et:((gi texts).length:Int)=(texts.length:Int):=by simp
 obtain⟨kvs,h1,h2⟩:=id Zs
 refine⟨_,(c_ (lg 3 jF (n_ O.xJ Ay hr (ak (pv 2) (ak (hG gq (by rfl) T.jW aaz (ak (pv 1) d_)) d_))))
   (c_ (lg 4 jF (ji d_))
   (c_ (lg 5 jF vM)
   (c_ (iI aap rfl (Li rfl T.Dw (ak (pv 1) d_)) (HM rfl (uB (uc 6 jF) (uB (uc 7 jF) Fz))) (eV (iJ (jw (pV (by exact iS hr) (pv 6) (pv 2))) (eV (lg 5 jF (Af hr (pv 2) (pv 6)))) (c_ (iu (k7 aaq aax aay iP (pv 4) (ak (Bo O.Oa ya (hr.mono (by decide)) (by rfl) O.Ob O.tO.b .nil o6 (ak (kF (ak (pv 0) (ak (hG gq (by rfl) T.jW aaz (ak (pv 4) d_)) d_))) (ak (pv 7) (ak (pv 5) (ak (vY (pv 3) (pv 6)) d_))))) d_)))
   (eV (lg 5 jF (hU (vY (pv 4) (yy tY e_)) rfl)))))))
   (eV (ia (pv 4))))))),?_⟩
 refine ME ?_;intro _ _ _ _
 refine⟨_,rfl,_,rfl,t,_,rfl,.inl (ht H (gg.refl H)),?_⟩
 rw[et]
 refine⟨a,texts.length,kn,rfl,Zs,hn,λb H1 bs s1 M8 SO MX Ss=>?_⟩
 refine⟨L2.kL,λl hl=>?_⟩
 have V_:H l=none:=s1.free hl
 have s2:gg H1 (upd H1 l (.lst [])):=(gg.refl H1).new hl
 refine⟨_,rfl,t,rfl,⟨_,ht _ (s1.trans s2)⟩,IM (K:=K) (a:=t) (xs:=gi texts) (λi Z H2=>∃(v6 v7:Option V)(vu:V)(u:Option Nm)(as:List Addr)(acc:List Ln),Z=[rs x,rr t,rr a,rr b,rr l,some vu,v6,v7]/\gg H1 H2/\H2 l=some (.lst (as.map V.ref))/\Paired (lP A H2) as acc/\acc.length<=i/\CN H2 vu u/\acc++p7 x kn i acc.length u (texts.drop i)=ko x texts kn)
  ⟨none,none,.jb,none,[],[],rfl,s2,a_,.nil,Vb _,rfl,rfl⟩ (by rintro _ _ _ _ ⟨_,_,_,_,_,_,_,s3,_⟩;exact ht _ (s1.trans s3)) ?_ ?_⟩
 ·rintro i tv e Z H2 hx ⟨v6,v7,vu,u,as,acc,rfl,s3,k1,k2,k3,k4,k5⟩ he
  obtain⟨tx,Zt,rfl⟩:=sy hx
  have hi:i<texts.length:=(List.getElem?_eq_some_iff.mp Zt).1
  have hd:texts.drop i=tx::texts.drop (i+1):=by rw[aaU hi];congr 1;exact(List.getElem?_eq_some_iff.mp Zt).2
  have s4:gg H2 (upd H2 e (.tup [.int i,.str tx])):=(gg.refl H2).new he
  have M9:=s3.trans s4
  rw[hd] at k5
  unfold p7 at k5
  refine⟨e,_,rfl,qT.of a_,rfl,_,_,rfl,_,_,rfl,rfl,?_⟩
  refine⟨_,rfl,_,rfl,a,_,rfl,jg.k (k:=Sum.inl (i:Int)) (M9 _ _ (s1 _ _ h1)),_,rfl,?_⟩
  have h3:=h2 i
  cases hk:kn i with
  | some m=>
   rw[hk] at h3 k5
   obtain⟨u',z1,z2⟩:=h3
   rw[z1]
   refine oM ⟨_,rfl,_,rfl,a,u',rfl,?_,?_⟩
   ·have:=jg.k (k:=Sum.inl (i:Int)) (M9 _ _ (s1 _ _ h1))
    rw[z1] at this
    exact this
   ·exact⟨_,_,_,some m,as,acc,rfl,M9,s4 _ _ k1,Paired.j0 k2 λ_ _ z=>z.same s4,by omega,(z2.same s1).same M9,k5⟩
  | none=>
   rw[hk] at h3 k5
   rw[h3]
   have WE:=aaj k2
   have el:((as.map V.ref).length:Int)=(acc.length:Int):=by rw[QU,WE]
   refine j_ ⟨_,rfl,.inl ⟨rfl,_,h_.of (s4 _ _ k1)⟩,_,rfl,_,rfl,l,_,rfl,.inl (h_.of (s4 _ _ k1)),?_⟩
   rw[el]
   refine⟨L2.kL,λnt Uj=>?_⟩
   have s5:=M9.new (o:=.tup [.str x,.int acc.length]) Uj
   obtain⟨bv,Zu⟩:∃bv,bs[i]?=some bv:=⟨_,R7 (by omega)⟩
   refine⟨_,rfl,_,rfl,_,rfl,_,rfl,b,_,_,_,rfl,rfl,h_.of (s5 _ _ SO),ig rfl Zu,?_⟩
   intro o dx no WH nxo
   have s56:gg (upd (upd H2 e (.tup [.int i,.str tx])) nt (.tup [.str x,.int acc.length])) (upd (upd (upd (upd H2 e (.tup [.int i,.str tx])) nt (.tup [.str x,.int acc.length])) dx (.own o)) o (.ins A.hX dx [])):=λc u e=>by
    rw[de (gc e no),de (gc e WH)]
    exact e
   refine⟨o,dx,_,_,_,_,rfl,a_,λH6 r6 r7=>⟨rfl,?_⟩⟩
   have s6:gg (upd (upd H2 e (.tup [.int i,.str tx])) nt (.tup [.str x,.int acc.length])) H6:=λc u ec=>by
    rw[r6 c (gc ec no)]
    exact s56 c u ec
   have SR:gg H2 H6:=(s4.new Uj).trans s6
   have SS:=SR _ _ k1
   have KS:lP A H6 o ⟨(x,acc.length),tx,u,EO kn (texts.drop (i+1)).length i⟩:=⟨dx,.ref nt,vu,bv,r7,⟨nt,rfl,s6 _ _ a_⟩,k4.same SR,by
    have:=Ss i bv Zu
    rw[List.length_drop,show texts.length-(i+1)=texts.length-1-i by omega]
    exact(this.same s1).same (s3.trans SR)⟩
   refine⟨l,_,_,rfl,rfl,SS,by rw[QU];omega,?_⟩
   have lo:l≠o:=λz=>by rw[z,r7] at SS;cases SS
   have e7:upd H6 l (.lst (as.map V.ref++[V.ref o])) l=some (.lst ((as++[o]).map V.ref)):=by rw[a_,aar];rfl
   have up:∀c ln,lP A H6 c ln->lP A (upd H6 l (.lst (as.map V.ref++[V.ref o]))) c ln:=λc ln z=>z.upd SS (λ_ z=>by cases z) (λ_ _ _ z=>by cases z)
   have r77:upd H6 l (.lst (as.map V.ref++[V.ref o])) o=some (.ins A.hX dx (LA (.ref nt) (.str tx) vu bv)):=by rw[de lo.symm];exact r7
   refine⟨_,rfl,_,rfl,l,_,_,_,rfl,rfl,h_.of a_,HY _ _,o,A.hX,dx,_,_,rfl,r77,O.iO,O.hZ,i0,?_⟩
   refine⟨_,_,_,some (x,acc.length),as++[o],acc++[⟨(x,acc.length),tx,u,EO kn (texts.drop (i+1)).length i⟩],rfl,(s3.trans SR).upd hl,e7,?_,PR,?_,?_⟩
   ·exact ix (Paired.j0 k2 λc ln z=>up c ln (z.same SR)) (up _ _ KS)
   ·exact kI.upd ⟨nt,rfl,s6 _ _ a_⟩ SS (λ_ z=>by cases z)
   ·rw[aaK,Vh]
    exact k5
 ·rintro Z H2 ⟨v6,v7,vu,u,as,acc,rfl,s3,k1,k2,k3,k4,k5⟩
  rw[show(gi texts).length=texts.length by simp,acq] at k5
  rw[show p7 x kn texts.length acc.length u []=[] from rfl,aaJ] at k5
  rw[k5] at k2
  exact⟨_,rfl,q l H2 (s1.trans s3) V_ ⟨as,k1,k2⟩⟩
theorem FY{row:List Ln}{q:Nat×Nat}:∀{xs:List (Nat×Nat)},q.2∉xs.map (·.2)->∀s,lO row (xs++[q]) s=if q.2=s then(row[q.1]?).map (·.nm) else lO row xs s
 | [],_,s=>rfl
 | x::r,h,s=>by
  rw[aat] at h
  have h1:q.2≠x.2:=λz=>h (by rw[z];exact aae)
  have h2:q.2∉r.map (·.2):=λz=>h (YE _ z)
  show(if x.2=s then _ else lO row (r++[q]) s)=if q.2=s then _ else(if x.2=s then _ else lO row r s)
  by_cases e:x.2=s
  ·rw[aag e,aac (λz=>h1 (by rw[z,e])),aag e]
  ·rw[aac e,aac e,FY h2 s]
theorem Ha{row:List Ln}{q:Nat×Nat}{l:Ln}(xs:List (Nat×Nat))(h:row[q.1]?=some l):p6 row (xs++[q])=p6 row xs++[l.nm]:=by
 unfold p6
 rw[abQ,abH,h]
 rfl
theorem Jr(T:Txt mg)(O:Ok K mg A):iq P w K mg base lN 3 A.Jd A.Je ["old","new"] Kp.YJ:=
 Kp.LG O.kept.f ⟨T.jW,T.jQ,T.Jb⟩ O.rE.f O.rE.b O.rE.m O.uh.f O.uh.b O.uh.m O.ui.f O.ui.b O.ui.m
def Vs(A:Ad)(H0 H:Hp)(a:Addr)(p:Pt):Prop:=∃dx vf pu cu vo,H a=some (.ins A.hV dx (Ku (.str p.nm) vf (.ref pu) (.ref cu) vo))/\PQ vf p.file/\pO A H pu p.iF/\x8 H cu p.jx/\PQ vo p.other/\H0 pu=none/\H0 cu=none
def Rh(A:Ad):Sp:=λvs H Q _=>∃(x f:Str)(r t:Addr)(row:List Ln)(texts:List Str),vs=[.str x,.str f,.ref r,.ref t]/\pO A H r row/\H t=some (.lst (gi texts))/\row.length<=1000/\texts.length<=1000/\
 ∀p H',gg H H'->H p=none->Vs A H H' p (iU x f row texts)->Q (.ref p) H'
theorem vC(T:Txt mg)(O:Ok K mg A):iq P w K mg base lN 4 A.pH A.pI ["patch","file","row","texts"] (Rh A):=by
 have Pc:=@Jr P w K mg base A T O
 have Ef:=@B1 P w K mg base A T O
 have wV:=@Ar P w K mg base A T O
 refine O.rL.f.pR iL λjv A0 outer s H vs Q E hr h=>?_
 obtain⟨x,f,r,t,row,texts,rfl,Co,ht,hn,hm,q⟩:=h
 obtain⟨as,tU,z8⟩:=id Co
 have hlen:=aaj z8
 have sz:sizeLine=16777216:=aaE
 refine⟨_,(c_ (lg 4 iL mD)
   (c_ (lU (i:=5) iL.nd rfl (Or.inr rfl) lu)
   (c_ (iI aap rfl (iH (n_ O.kept Pc hr (ak (tw ma (f_ jU).names [9] rfl (iH (pv 2)) rfl (by decide+kernel) (λ_ _ _ _=>(iK (i:=9) iL.nd rfl (Or.inl rfl))) (λ_ _ _ _=>oN) (λ_ _ _ _=>Bz (hU (pv 9) rfl))) (ak (pv 3) d_)))) (HM rfl (uB (uc 6 iL) (uB (uc 7 iL) Fz))) (c_ (jd (by exact iS hr) (pv 4) (pv 7) (hU (vY (pv 2) (pv 6)) rfl) rfl)
   (eV (jd (by exact iS hr) (pv 5) (hU (vY (pv 2) (pv 6)) rfl) mz rfl))))
   (c_ (Bw (j:=8) ma (f_ jU).names [9] iL.nd rfl rfl rfl (iH (pv 2)) rfl (by decide+kernel) (λ_ _ _ _=>(iK (i:=9) iL.nd rfl (Or.inl rfl))) (λ_ _ _ _=>⟨_,oO (jw (o5 (by exact iS hr) (hU (pv 9) rfl) (pv 5))),by(try simp only [kR]);rfl⟩) (λ_ _ _ _=>Bz (hU (pv 9) rfl)))
   (eV (ia (Bo O.Lv wV (hr.mono (by decide)) (by rfl) O.Lw O.rF.b .nil o6 (ak (pv 0) (ak (pv 1) (ak (n_ O.A2 Ef hr (ak (pv 0) (ak (pv 3) (ak (pv 4) d_)))) (ak (pv 8) (ak vM d_)))))))))))),?_⟩
 refine ME ?_;intro _ _ _ _
 intro k SU g Uk
 have WI:k≠g:=λz=>by rw[<-z,a_] at Uk;cases Uk
 have Zv:H g=none:=(gg.refl H |>.new (o:=.dK []) SU).free Uk
 have s1:gg H (upd (upd H k (.dK [])) g (.dT [])):=((gg.refl H).new SU).new Uk
 have Ul:(upd (upd H k (.dK [])) g (.dT [])) k=some (.dK []):=by rw[de WI];exact a_
 have MW:(upd (upd H k (.dK [])) g (.dT [])) g=some (.dT []):=a_
 generalize upd (upd H k (.dK [])) g (.dT [])=H1 at s1 Ul MW
 have O_:(as.map V.ref).length<=sizeLine:=by rw[QU,hlen];omega
 let Jv:=λ(i:Nat) (ys:List V) (Z:St) (H4:Hp)=>∃(v9:Option V),Z=[rs x,rs f,rr r,rr t,rr k,rr g,none,none,none,v9]/\H4=H1/\ys=gi ((row.take i).map (·.tx))
 refine⟨_,rfl,r,rfl,⟨_,h_.of (s1 _ _ tU)⟩,ky (K:=K) (a:=r) (xs:=as.map V.ref) O_ Jv
  ⟨none,rfl,rfl,rfl⟩ (by rintro _ _ _ _ _ ⟨_,_,e,e2⟩;subst e e2;exact⟨h_.of (s1 _ _ tU),by rw[QU,QU,aaA];omega⟩) ?_ ?_⟩
 ·rintro i v ys Z H4 hx ⟨v9,rfl,rfl,rfl⟩
  obtain⟨b,hb,rfl⟩:=jR hx
  obtain⟨ln,uy,dx,vn,vu,vl,k1,k2,k3,k4⟩:=il z8 hb
  refine⟨_,rfl,b,A.hX,dx,_,_,rfl,s1 _ _ k1,O.iO,O.jI,zm,_,rfl,rfl,?_⟩
  rw[take_snoc uy,aar,i3]
  rfl
 ·rintro ys Z H4 ⟨v9,rfl,rfl,rfl⟩ o Um
  rw[QU,hlen,aav]
  have s2:gg H4 (upd H4 o (.lst (gi (row.map (·.tx))))):=(gg.refl H4).new Um
  refine⟨_,rfl,row.map (·.tx),texts,o,t,rfl,a_,s2 _ _ (s1 _ _ ht),by rw[QU];exact hn,hm,λpr H5 ps s5 HA SV Pd=>?_⟩
  have SW:gg H4 H5:=s2.trans s5
  have Zw:gg H H5:=s1.trans SW
  have rise:=nG (row.map (·.tx)) texts
  rw[QU] at rise
  have HB:(K01.kept (row.map (·.tx)) texts).length<=1000:=by
   rw[K01.xi]
   have:=K01.xh (row.map (·.tx)) texts
   rw[QU] at this
   omega
  generalize Qd:K01.kept (row.map (·.tx)) texts=qs at Pd rise HB
  have SE:=aaj Pd
  let Jv:=λ(i:Nat) (Z:St) (H6:Hp)=>∃(v6 v7:Option V)(kk:List (Key×V))(kg:List (List Key×V)),Z=[rs x,rs f,rr r,rr t,rr k,rr g,v6,v7,none,none]/\(∀b o,H5 b=some o->b≠k->b≠g->H6 b=some o)/\H6 k=some (.dK kk)/\kk.length<=i/\(∀s:Nat,match lO row (qs.take i) s with|some m=>∃v,iA kk (Sum.inl (s:Int))=some v/\kI H v m|none=>iA kk (Sum.inl (s:Int))=none)/\H6 g=some (.dT kg)/\kg.length<=i/\PU kg (p6 row (qs.take i))
  refine⟨pr,rfl,⟨_,h_.of SV⟩,jy (K:=K) (a:=pr) (xs:=ps) Jv
   ⟨none,none,[],[],rfl,λb o e _ _=>e,SW _ _ Ul,Vb _,(λs=>by rw[abU];exact rfl),SW _ _ MW,Vb _,(λn=>rfl)⟩ (by rintro _ _ _ _ ⟨_,_,_,_,_,e,_⟩;exact h_.of (e _ _ SV (λz=>by rw[z] at HA;rw[s2 _ _ Ul] at HA;cases HA) (λz=>by rw[z] at HA;rw[s2 _ _ MW] at HA;cases HA))) ?_ ?_⟩
  ·rintro i v Z H6 hx ⟨v6,v7,kk,kg,rfl,e1,e2,e3,e4,e5,e6,e7⟩
   obtain⟨qq,hq,pt,rfl,KC⟩:=k_ Pd hx
   have WJ:H5 k=some (.dK []):=SW _ _ Ul
   have WK:H5 g=some (.dT []):=SW _ _ MW
   have hi:i<qs.length:=(List.getElem?_eq_some_iff.mp hq).1
   obtain⟨SO,O9⟩:=rise.2 qq (Xj hq)
   obtain⟨b,SN,Zx⟩:=E3 z8 (R7 SO)
   have Fs:row[qq.1]?=some row[qq.1]:=R7 SO
   generalize row[qq.1]=ln at Zx Fs
   obtain⟨dx,vn,vu,vl,z1,⟨nt,rfl,z2⟩,z3,z4⟩:=Zx
   have up:∀{b o},H b=some o->H6 b=some o:=λ{b o} e=>e1 b o (Zw _ _ e) (λz=>by rw[z,SU] at e;cases e) (λz=>by rw[z,Zv] at e;cases e)
   refine⟨pt,_,rfl,qT.of (e1 _ _ KC (jc KC WJ (λz=>by cases z)) (jc KC WK (λz=>by cases z))),rfl,_,_,rfl,_,_,rfl,rfl,?_⟩
   refine⟨_,rfl,_,rfl,r,_,_,_,rfl,rfl,h_.of (up tU),ig rfl SN,b,A.hX,dx,_,_,rfl,up z1,O.iO,O.hZ,i0,_,rfl,_,rfl,k,_,rfl,mB.k (k:=Sum.inl (qq.2:Int)) e2 (by omega),?_⟩
   have WL:∀{b o},H b=some o->upd H6 k (.dK (putK kk (Sum.inl (qq.2:Int)) (V.ref nt))) b=some o:=λ{b o} e=>by rw[de (λz=>by rw[z,SU] at e;cases e)];exact up e
   have P4:=iQ kk (Sum.inl (qq.2:Int):Key) (V.ref nt)
   have JV:=iQ kg (nk ln.nm) (V.bl true)
   refine⟨_,rfl,_,rfl,_,rfl,r,_,_,_,rfl,rfl,h_.of (WL tU),ig rfl SN,b,A.hX,dx,_,_,rfl,WL z1,O.iO,O.hZ,i0,g,_,rfl,mB.t (k:=nk ln.nm) (by rw[de WI.symm];exact e5) (WL z2) (by omega),?_⟩
   have Pe:qq.2∉(qs.take i).map (·.2):=λz=>by
    obtain⟨w1,hw1,ew⟩:=List.mem_map.mp z
    obtain⟨j,hj⟩:=aaT.mp hw1
    have Mc:j<i:=by have:=(List.getElem?_eq_some_iff.mp hj).1;rw[aaA] at this;omega
    rw[List.getElem?_take,aag Mc] at hj
    obtain⟨WM,hj2⟩:=List.getElem?_eq_some_iff.mp hj
    have:=aa2.mp rise.1 j i WM hi Mc
    rw[hj2,(List.getElem?_eq_some_iff.mp hq).2] at this
    omega
   refine⟨_,_,_,_,rfl,λb o e nk ng=>?_,by rw[de WI];exact a_,by omega,λs=>?_,a_,by omega,?_⟩
   ·rw[de ng,de nk];exact e1 b o e nk ng
   ·rw[take_snoc hq,FY Pe,jq]
    by_cases es:qq.2=s
    ·subst es
     rw[aag rfl,aag rfl,Fs]
     exact⟨_,rfl,nt,rfl,z2⟩
    ·rw[aac es,aac (λz=>es (by have:=Sum.inl.inj z;omega))]
     exact e4 s
   ·rw[take_snoc hq,Ha _ Fs]
    exact e7.put ln.nm _
  ·rintro Z H6 ⟨v6,v7,kk,kg,rfl,e1,e2,e3,e4,e5,e6,e7⟩
   rw[<-SE,aav] at e4 e7
   have up:∀{b o},H b=some o->H6 b=some o:=λ{b o} e=>e1 b o (Zw _ _ e) (λz=>by rw[z,SU] at e;cases e) (λz=>by rw[z,Zv] at e;cases e)
   have Zy:gg H H6:=λb o e=>up e
   refine⟨_,rfl,r,rfl,⟨_,h_.of (up tU)⟩,ky (K:=K) (a:=r) (xs:=as.map V.ref) O_ (λi ys Z H4=>∃(v9:Option V),Z=[rs x,rs f,rr r,rr t,rr k,rr g,v6,v7,none,v9]/\H4=H6/\ys.length<=i/\Paired (kI H) ys (((row.take i).filter λl=>l.nm∉p6 row qs).map (·.nm)))
    ⟨none,rfl,rfl,Vb _,.nil⟩ (by rintro _ _ _ _ _ ⟨_,_,e,e20,_⟩;rw[e];exact⟨h_.of (up tU),e20⟩) ?_ ?_⟩
   ·rintro i v ys Z H7 hx ⟨v9,rfl,rfl,e8,e9⟩
    obtain⟨b,hb,rfl⟩:=jR hx
    obtain⟨ln,uy,dx,vn,vu,vl,k1,⟨nt,rfl,k2⟩,k3,k4⟩:=il z8 hb
    refine⟨_,rfl,b,A.hX,dx,_,_,rfl,up k1,O.iO,O.hZ,i0,_,rfl,g,_,rfl,jg.t (k:=nk ln.nm) e5 (up k2),_,rfl,?_⟩
    rw[e7 ln.nm,take_snoc uy,aaH,aar]
    by_cases Aw:ln.nm∈p6 row qs
    ·rw[V7 Aw]
     refine j_ ⟨_,rfl,rfl,by omega,?_⟩
     rw[aaf (by simpa using Aw),aaX,List.map_nil,aaJ]
     exact e9
    ·rw[aai Aw]
     refine oM ⟨_,rfl,b,A.hX,dx,_,_,rfl,up k1,O.iO,O.hZ,i0,_,rfl,rfl,PR,?_⟩
     rw[aad (by simpa using Aw),aaX]
     exact ix e9 ⟨nt,rfl,k2⟩
   ·rintro ys Z H7 ⟨v9,rfl,rfl,e8,e9⟩ c Uo
    rw[QU,hlen,aav] at e9
    have s8:=Zy.new (o:=.lst ys) Uo
    have Wu:c≠k:=λz=>by rw[z,e2] at Uo;cases Uo
    refine⟨_,rfl,_,rfl,_,rfl,_,rfl,_,rfl,x,t,k,texts,lO row qs,rfl,h_.of (s8 _ _ ht),λH' s'=>h_.of (s' _ _ (s8 _ _ ht)),⟨kk,by rw[de Wu.symm];exact e2,λs=>?_⟩,by omega,λpu H9 s9 WN WO=>?_⟩
    ·have:=e4 s
     cases ek:lO row qs s with
     | none=>rw[ek] at this;exact this
     | some m=>rw[ek] at this;obtain⟨v,w1,w2⟩:=this;exact⟨v,w1,w2.same s8⟩
    ·refine⟨_,rfl,?_⟩
     intro o dx no WH nxo
     refine⟨o,dx,_,_,_,_,_,rfl,a_,λFu r6 r7=>⟨rfl,?_⟩⟩
     have Bj:gg H9 Fu:=λc u ec=>by
      rw[r6 c (gc ec no),de (gc ec no),de (gc ec WH)]
      exact ec
     have SX:=(s8.trans s9).trans Bj
     refine q o Fu SX ((s8.trans s9).free no) ?_
     unfold iU
     rw[Qd]
     exact⟨dx,_,pu,c,.jb,r7,rfl,WO.same Bj,⟨ys,Bj _ _ (s9 _ _ a_),Paired.j0 e9 λ_ _ z=>z.same SX⟩,rfl,s8.free WN,Zy.free Uo⟩
def lR:Str:=Str.ofString "abcdefghijklmnopqrstuvwxyz0123456789"
def Good(x:Str):Prop:=1<=x.length/\x.length<=12/\∀c∈x.cps.toList,c∈lR.cps.toList
def sZ(x:Str):Prop:=(reprText x).length<=1048576/\x.length<=1000
abbrev sk(x:Str):Key:=Sum.inr x
theorem zu{x:Str}{l:List Str}:sk x∈l.map sk↔x∈l:=by
 constructor
 ·intro h
  obtain⟨m,hm,e⟩:=List.mem_map.mp h
  rw[<-acv e];exact hm
 ·exact λh=>Vi h
theorem mq{dk:List (Key×V)}{l:List Str}(h:dk.map (·.1)=l.map sk):dk.length=l.length:=by
 have:=aaQ List.length h
 rwa [QU,QU] at this
theorem Hb{dk:List (Key×V)}{l:List Str}(h:dk.map (·.1)=l.map sk){i:Nat}{k:Key}{v:V}(hi:dk[i]?=some (k,v)):∃x,l[i]?=some x/\k=sk x:=by
 have h1:(dk.map (·.1))[i]?=some k:=by rw[YI,hi];rfl
 rw[h,YI] at h1
 obtain⟨n,e,e2⟩:=Option.map_eq_some_iff.mp h1
 exact⟨n,e,e2.symm⟩
theorem sI{dk:List (Key×V)}{l:List Str}(h:dk.map (·.1)=l.map sk)(x:Str):(iA dk (sk x)).isSome=decide (x∈l):=by
 by_cases m:x∈l
 ·rw[V7 m];exact sG.mpr (by rw[h];exact zu.mpr m)
 ·rw[aai m,abF];exact λz=>m (zu.mp (by rw[<-h];exact sG.mp z))
theorem sJ{dk:List (Key×V)}{l:List Str}(h:dk.map (·.1)=l.map sk){x:Str}(hx:x∉l)(v:V):(putK dk (sk x) v).map (·.1)=(l++[x]).map sk:=by
 rw[pQ,h,aac (λz=>hx (zu.mp z)),aar];rfl
theorem E4{dk:List (Key×V)}{l:List Str}(h:dk.map (·.1)=l.map sk):(dk.map λkv=>kV kv.1)=gi l:=by
 have:(dk.map λkv=>kV kv.1)=(dk.map (·.1)).map kV:=by rw[List.map_map];rfl
 rw[this,h,List.map_map];rfl
def DR(m n h:Addr):List (Str×V):=[("made",.ref m),("needs",.ref n),("held",.ref h)]
theorem Ou(m n h:Addr):jz "held" (.ref h) (jz "needs" (.ref n) (jz "made" (.ref m) []))=DR m n h:=by kernel_rfl
theorem rX(m n h:Addr):(DR m n h).lookup ("held":Str)=some (V.ref h):=by kernel_rfl
theorem rY(m n h:Addr):(DR m n h).lookup ("made":Str)=some (V.ref m):=by kernel_rfl
theorem A_(m n h:Addr):(DR m n h).lookup ("needs":Str)=some (V.ref n):=by kernel_rfl
structure Dp where
 dx:Addr
 m:Addr
 n:Addr
 h:Addr
 ha:Str->Addr
 kM:List (Key×V)
 kN:List (Key×V)
 kH:List (Key×V)
structure TF(A:Ad)(H:Hp)(d:Addr)(D:Dk)(W:Addr->Prop)(Y:Dp):Prop where
 hd:H d=some (.ins A.g_ Y.dx (DR Y.m Y.n Y.h))
 hm:H Y.m=some (.dK Y.kM)
 hn:H Y.n=some (.dK Y.kN)
 hh:H Y.h=some (.dK Y.kH)
 mn:Y.m≠Y.n
 mh:Y.m≠Y.h
 nh:Y.n≠Y.h
 wm:W Y.m
 wn:W Y.n
 wh:W Y.h
 km:Y.kM.map (·.1)=D.names.map sk
 vm:∀p∈D.made,∃a,iA Y.kM (sk p.nm)=some (.ref a)/\pP A H a p
 kn:Y.kN.map (·.1)=D.names.map sk
 vn:∀x∈D.names,∃(a:Addr)(kv:List (Key×V))(l:List Str),iA Y.kN (sk x)=some (.ref a)/\¬W a/\H a=some (.dK kv)/\kv.map (·.1)=l.map sk/\l.Nodup/\∀y,y∈l↔y∈D.iV x
 kh:Y.kH.map (·.1)=D.stores.map sk
 vh:∀s∈D.stores,iA Y.kH (sk s)=some (.ref (Y.ha s))/\W (Y.ha s)/\Y.ha s≠Y.m/\Y.ha s≠Y.n/\Y.ha s≠Y.h/\∃kv:List (Key×V),H (Y.ha s)=some (.dK kv)/\kv.map (·.1)=(D.held s).map sk
 inj:∀s∈D.stores,∀t∈D.stores,Y.ha s=Y.ha t->s=t
 dk:∀b,W b->∃kv,H b=some (.dK kv)
def iY(A:Ad)(H:Hp)(d:Addr)(D:Dk)(W:Addr->Prop):Prop:=∃Y,TF A H d D W Y
theorem TF.same{A:Ad}{H H':Hp}{d:Addr}{D:Dk}{W:Addr->Prop}{Y:Dp}(x:TF A H d D W Y)(s:gg H H'):TF A H' d D W Y where
 hd:=s _ _ x.hd
 hm:=s _ _ x.hm
 hn:=s _ _ x.hn
 hh:=s _ _ x.hh
 mn:=x.mn
 mh:=x.mh
 nh:=x.nh
 wm:=x.wm
 wn:=x.wn
 wh:=x.wh
 km:=x.km
 vm:=λp hp=>by obtain⟨a,h1,h2⟩:=x.vm p hp;exact⟨a,h1,h2.same s⟩
 kn:=x.kn
 vn:=λy hy=>by obtain⟨a,kv,l,h1,h2,h3,h4⟩:=x.vn y hy;exact⟨a,kv,l,h1,h2,s _ _ h3,h4⟩
 kh:=x.kh
 vh:=λt ht=>by obtain⟨h1,h2,h3,h4,h5,kv,h6,h7⟩:=x.vh t ht;exact⟨h1,h2,h3,h4,h5,kv,s _ _ h6,h7⟩
 inj:=x.inj
 dk:=λb hb=>by obtain⟨kv,h⟩:=x.dk b hb;exact⟨kv,s _ _ h⟩
theorem iY.same{A:Ad}{H H':Hp}{d:Addr}{D:Dk}{W:Addr->Prop}(x:iY A H d D W)(s:gg H H'):iY A H' d D W:=by
 obtain⟨Y,x⟩:=x
 exact⟨Y,x.same s⟩
def FZ(W:Addr->Prop)(H H':Hp):Prop:=∀b o,H b=some o->¬W b->H' b=some o
theorem iY.lst{A:Ad}{H:Hp}{d a:Addr}{D:Dk}{W:Addr->Prop}{xs:List V}(x:iY A H d D W)(h:H a=some (.lst xs)):¬W a:=λz=>by
 obtain⟨Y,x⟩:=x
 obtain⟨kv,e⟩:=x.dk a z
 rw[h] at e;cases e
theorem iY.tup{A:Ad}{H:Hp}{d a:Addr}{D:Dk}{W:Addr->Prop}{xs:List V}(x:iY A H d D W)(h:H a=some (.tup xs)):¬W a:=λz=>by
 obtain⟨Y,x⟩:=x
 obtain⟨kv,e⟩:=x.dk a z
 rw[h] at e;cases e
theorem iY.jb{A:Ad}{H:Hp}{d a:Addr}{D:Dk}{W:Addr->Prop}(x:iY A H d D W)(h:H a=none):¬W a:=λz=>by
 obtain⟨Y,x⟩:=x
 obtain⟨kv,e⟩:=x.dk a z
 rw[h] at e;cases e
theorem rZ{m n h:Addr}:(DR m n h).lookup ("check_store":Str)=none:=by kernel_rfl
theorem B2{m n h:Addr}:(DR m n h).lookup ("check_new":Str)=none:=by kernel_rfl
theorem LJ{m n h:Addr}:(DR m n h).lookup ("keep":Str)=none:=by kernel_rfl
theorem E5{m n h:Addr}:(DR m n h).lookup ("has":Str)=none:=by kernel_rfl
theorem tR{m n h:Addr}:(DR m n h).lookup ("patches_of":Str)=none:=by kernel_rfl
theorem r9{m n h:Addr}:(DR m n h).lookup ("sight_of":Str)=none:=by kernel_rfl
theorem Ov{m n h:Addr}:(DR m n h).lookup ("row":Str)=none:=by kernel_rfl
theorem xO{m n h:Addr}:(DR m n h).lookup ("quarrels":Str)=none:=by kernel_rfl
theorem zv{m n h:Addr}:(DR m n h).lookup ("patches":Str)=none:=by kernel_rfl
theorem DS{m n h:Addr}:(DR m n h).lookup ("files":Str)=none:=by kernel_rfl
theorem Js{m n h:Addr}:(DR m n h).lookup ("begin":Str)=none:=by kernel_rfl
theorem Hc{m n h:Addr}:(DR m n h).lookup ("record":Str)=none:=by kernel_rfl
def Ow:Dk:=⟨[],λ_=>[],[],λ_=>[]⟩
theorem Vt:Inv Ow:=⟨abh,(λp hp=>by cases hp),(λp hp=>by cases hp),⟨λ_=>0,λp hp=>by cases hp⟩,(λi p hp=>by simp[Ow] at hp),(λx hx=>by cases hx),abh,(λs hs=>by cases hs),(λs hs=>by cases hs),(λp hp=>by cases hp),(λp hp=>by cases hp)⟩
def Ox(A:Ad):Sp:=λvs H Q _=>∃(p dx:Addr),vs=[.ref p]/\H p=some (.ins A.g_ dx [])/\∀(H':Hp)(W:Addr->Prop),iY A H' p Ow W->(∀b,W b->H b=none)->(∀b o,H b=some o->b≠p->H' b=some o)->Q .jb H'
theorem B3(T:Txt mg)(O:Ok K mg A):iq P w K mg base lN 1 A.mU A.qI ["self"] (Ox A):=by
 refine O.tP.f.pR wq λjv A0 outer s H vs Q E hr h=>?_
 obtain⟨p,dx,rfl,hp,k⟩:=h
 refine⟨_,(c_ (lj (pv 0) mD rfl)
   (c_ (lj (pv 0) mD rfl)
   (eV (lj (pv 0) mD rfl)))),?_⟩
 refine Em ?_;intro _ _
 intro m hm
 have Kc:p≠m:=gc hp hm
 refine⟨_,rfl,p,A.g_,dx,_,rfl,(by rw[de Kc];exact hp),O.iB,O.i7,(by show 0<1000;decide),?_⟩
 intro n hn
 have SY:p≠n:=gc a_ hn
 have Up:m≠n:=by
  intro z;subst z;rw[de Kc.symm,a_] at hn;cases hn
 have hH:H n=none:=by rw[de SY.symm,de Up.symm] at hn;exact hn
 refine⟨_,rfl,p,A.g_,dx,_,rfl,(by rw[de SY];exact a_),O.iB,O.jM,(by show 1<1000;decide),?_⟩
 intro h hh
 have Uq:p≠h:=gc a_ hh
 have WQ:n≠h:=by
  intro z;subst z;rw[de SY.symm,a_] at hh;cases hh
 have WR:m≠h:=by
  intro z;subst z;rw[de Kc.symm,de Up,de Kc.symm,a_] at hh;cases hh
 have Zz:H h=none:=by rw[de Uq.symm,de WQ.symm,de Uq.symm,de WR.symm] at hh;exact hh
 refine⟨_,rfl,p,A.g_,dx,_,rfl,(by rw[de Uq];exact a_),O.iB,O.i8,(by show 2<1000;decide),?_⟩
 have e1:∀{o},upd (upd (upd (upd (upd (upd H m (.dK [])) p (.ins A.g_ dx (jz "made" (.ref m) []))) n (.dK [])) p (.ins A.g_ dx (jz "needs" (.ref n) (jz "made" (.ref m) [])))) h (.dK [])) p o m=some (.dK []):=by
  intro o;rw[de Kc.symm,de WR,de Kc.symm,de Up,de Kc.symm,a_]
 have e2:∀{o},upd (upd (upd (upd (upd (upd H m (.dK [])) p (.ins A.g_ dx (jz "made" (.ref m) []))) n (.dK [])) p (.ins A.g_ dx (jz "needs" (.ref n) (jz "made" (.ref m) [])))) h (.dK [])) p o n=some (.dK []):=by
  intro o;rw[de SY.symm,de WQ,de SY.symm,a_]
 have e3:∀{o},upd (upd (upd (upd (upd (upd H m (.dK [])) p (.ins A.g_ dx (jz "made" (.ref m) []))) n (.dK [])) p (.ins A.g_ dx (jz "needs" (.ref n) (jz "made" (.ref m) [])))) h (.dK [])) p o h=some (.dK []):=by
  intro o;rw[de Uq.symm,a_]
 refine k _ (λb=>b=m\/b=n\/b=h) ⟨⟨dx,m,n,h,λ_=>0,[],[],[]⟩,Eq.trans a_ (aaQ (λl=>some (HO.ins A.g_ dx l)) (Ou m n h)),e1,e2,e3,Up,WR,WQ,.inl rfl,.inr (.inl rfl),.inr (.inr rfl),rfl,(λp hp=>by cases hp),rfl,(λp hp=>by cases hp),rfl,(λp hp=>by cases hp),(λp hp=>by cases hp),λb hb=>?_⟩ (λb hb=>?_) λb o e hb=>?_
 ·rcases hb with rfl|rfl|rfl
  ·exact⟨_,e1⟩
  ·exact⟨_,e2⟩
  ·exact⟨_,e3⟩
 ·rcases hb with rfl|rfl|rfl
  ·exact hm
  ·exact hH
  ·exact Zz
 ·rw[de hb,de (gc e Zz),de hb,de (gc e hH),de hb,de (gc e hm)]
  exact e
def LK(XB:Addr):Sp:=λvs H Q E=>∃x:Str,vs=[.str x]/\sZ x/\(Good x->Q .jb H)/\(¬Good x->E (.ref XB) none H)
theorem MJ:(12:Int).natAbs.log2<1920:=by decide
theorem tS(T:Txt mg)(O:Ok K mg A):iq P w K mg base (xU P w) 1 A.u4 A.u9 ["name"] (LK A.j3):=by
 refine O.uj.f.yV tF λjv A0 outer s H vs Q E hr h=>?_
 obtain⟨x,rfl,⟨hf,hl⟩,q,qe⟩:=h
 refine⟨_,(c_ (iJ (mH (HR Mu Mu e_ (hG uH (by rfl) T.jW aaz (ak (pv 0) d_)) (Bm (v:=.int 12) (by rfl) O.rN ⟨_,rfl⟩))) (eV (nJ bx O.A6 (by rfl) (pX (je jn (je (NY (Bm (v:=.int 12) (by rfl) O.rN ⟨_,rfl⟩)) (je jn (je (ub (pv 0)) ua))))))) ie)
   (eV (iI QO rfl (NX (pv 0)) (uc 1 tF) (eV (iJ (ij Bn (pv 1) (Bm (v:=.str (Str.ofString "abcdefghijklmnopqrstuvwxyz0123456789")) (by rfl) O.BR ⟨_,rfl⟩) rfl) (eV (nJ bx O.A6 (by rfl) (pX (je jn (je (ub (pv 0)) ua))))) ie))))),?_⟩
 refine Kt ?_;intro _
 have hz:x.length<=sizeLine:=aao hl (by decide)
 have bad:¬Good x->∀H',H'=H->E (.ref A.j3) none H':=λg H' e=>by subst e;exact qe g
 refine⟨_,rfl,_,rfl,hz,_,_,rfl,rfl,_,rfl,?_⟩
 refine lb (λh1=>?_) (λh1=>?_)
 ·refine⟨_,_,rfl,rfl,_,rfl,?_⟩
  refine lb (λh2=>?_) (λh2=>?_)
  ·
   have h2:¬((x.length:Int)<=12):=by simpa using h2
   refine⟨_,rfl,by decide+kernel,⟨_,rfl,MJ,_,rfl,by decide+kernel,⟨_,rfl,by decide+kernel,⟨_,rfl,_,rfl,hf,_,rfl,hf,λ_=>qe λg=>?_⟩⟩⟩⟩
   have:=g.2.1;omega
  ·have h1:(1:Int)<=(x.length:Int):=by simpa using h1
   have h2:(x.length:Int)<=12:=by simpa using h2
   refine⟨_,rfl,x,rfl,Iy (λi Z H2=>∃v,Z=[rs x,v]/\H2=H/\∀j<i,∀c,x.cps[j]?=some c->c∈lR.cps.toList) ⟨none,rfl,rfl,λj hj=>absurd hj (by omega)⟩ ?_ ?_⟩
   ·rintro i c Z H2 hc ⟨v,rfl,rfl,hp⟩
    refine⟨_,rfl,_,_,rfl,rfl,_,rfl,?_⟩
    rw[Ld]
    refine lb (λh3=>?_) (λh3=>?_)
    ·have h3:c∉lR.cps.toList:=by simpa[lR] using h3
     refine⟨_,rfl,by decide+kernel,⟨_,rfl,_,rfl,hf,_,rfl,hf,λ_=>qe λg=>?_⟩⟩
     exact h3 (g.2.2 c (Xj (i:=i) (by rw[aaL];exact hc)))
    ·have h3:c∈lR.cps.toList:=by simpa[lR] using h3
     refine⟨_,rfl,rfl,λj hj c' Bf=>?_⟩
     by_cases e:j=i
     ·subst e;rw[hc] at Bf;cases Bf;exact h3
     ·exact hp j (by omega) c' Bf
   ·rintro Z H2 ⟨v,rfl,rfl,hp⟩
    refine q ⟨by omega,by omega,λc hc=>?_⟩
    obtain⟨j,hj,e⟩:=List.mem_iff_getElem.mp hc
    have Mh:j<x.cps.size:=by simpa using hj
    exact hp j Mh c (by rw[aaO Mh];simpa using e)
 ·have h1:¬((1:Int)<=(x.length:Int)):=by simpa using h1
  refine⟨_,rfl,?_⟩
  refine⟨_,rfl,by decide+kernel,⟨_,rfl,MJ,_,rfl,by decide+kernel,⟨_,rfl,by decide+kernel,⟨_,rfl,_,rfl,hf,_,rfl,hf,λ_=>qe λg=>?_⟩⟩⟩⟩
  have:=g.1;omega
def He(A:Ad):Sp:=λvs H Q _=>∃(d:Addr)(D:Dk)(W:Addr->Prop),vs=[.ref d]/\iY A H d D W/\∀p,H p=none->Q (.ref p) (upd H p (.lst (gi D.names)))
theorem zw(T:Txt mg)(O:Ok K mg A):iq P w K mg base lN 1 A.rA A.rB ["self"] (He A):=by
 refine O.lI.f.pR xY λjv A0 outer s H vs Q E hr h=>?_
 obtain⟨d,D,W,rfl,⟨Y,x⟩,q⟩:=h
 refine⟨_,(eV (ia (lV (yN rfl) (by rfl) T.ug abr (ak (hU (pv 0) rfl) d_)))),?_⟩
 refine⟨_,rfl,d,A.g_,Y.dx,_,_,rfl,x.hd,O.iB,O.i7,rY _ _ _,Y.m,_,rfl,x.hm,λp Eo=>?_⟩
 rw[E4 x.km]
 exact q p Eo
def LL(A:Ad):Sp:=λvs H Q E=>∃(d:Addr)(D:Dk)(W:Addr->Prop)(s:Str),vs=[.ref d,.str s]/\iY A H d D W/\sZ s/\(s∈D.stores->Q .jb H)/\(s∉D.stores->E (.ref A.jm) none H)
theorem r_(T:Txt mg)(O:Ok K mg A):iq P w K mg base (xU P w) 1 A.nY A.nZ ["self","store"] (LL A):=by
 refine O.mi.f.yV sX λjv A0 outer s H vs Q E hr h=>?_
 obtain⟨d,D,W,st,rfl,⟨Y,x⟩,hf,q,qe⟩:=h
 refine⟨_,(eV (iJ (jw (o5 (by exact iS hr) (pv 1) (hU (pv 0) rfl))) (eV (nJ bx O.G4 (by rfl) (pX (je jn (je (ub (pv 1)) ua))))) ie)),?_⟩
 refine⟨_,rfl,_,rfl,d,A.g_,Y.dx,_,_,rfl,x.hd,O.iB,O.i8,rX _ _ _,Y.h,_,rfl,jg.k (k:=sk st) x.hh,_,rfl,?_⟩
 rw[sI x.kh]
 by_cases hs:st∈D.stores
 ·rw[V7 hs]
  exact q hs
 ·rw[aai hs]
  exact oM ⟨_,rfl,by decide+kernel,⟨_,rfl,_,rfl,hf.1,_,rfl,hf.1,λ_=>qe hs⟩⟩
def Av(H:Hp)(v:V)(l:Ln):Prop:=∃t,v=.ref t/\H t=some (.tup [.str l.nm.1,.int l.nm.2,.str l.tx])
def lS(H:Hp)(a:Addr)(row:List Ln):Prop:=∃vs,H a=some (.lst vs)/\Paired (Av H) vs row
theorem Av.same{H H':Hp}{v:V}{l:Ln}(x:Av H v l)(s:gg H H'):Av H' v l:=by obtain⟨t,e,h⟩:=x;exact⟨t,e,s _ _ h⟩
theorem lS.same{H H':Hp}{a:Addr}{row:List Ln}(x:lS H a row)(s:gg H H'):lS H' a row:=by
 obtain⟨vs,h,p⟩:=x
 exact⟨vs,s _ _ h,Paired.j0 p λ_ _ z=>z.same s⟩
def Ri(A:Ad):Sp:=λvs H Q E=>∃(d:Addr)(D:Dk)(W:Addr->Prop)(s:Str),vs=[.ref d,.str s]/\iY A H d D W/\sZ s/\z7 D.made.length/\(s∉D.stores->E (.ref A.jm) none H)/\(s∈D.stores->∀p,H p=none->Q (.ref p) (upd H p (.lst (gi (D.has s)))))
theorem E6(T:Txt mg)(O:Ok K mg A):iq P w K mg base (xU P w) 2 A.zb A.zc ["self","store"] (Ri A):=by
 have kZ:=@r_ P w K mg base A T O
 refine O.vw.f.yV xl λjv A0 outer s H vs Q E hr h=>?_
 obtain⟨d,D,W,st,rfl,X,hf,kL,qe,q⟩:=h
 obtain⟨Y,x⟩:=id X
 have Ec:D.made.length<=4000:=kL
 have sz:sizeLine=16777216:=aaE
 refine⟨_,(c_ (iu (Lj bx (pv 0) O.iB O.mi kZ hr (ak (pv 1) d_)))
   (eV (ia (K9 (vT y9 (f_ qf).names [2] rfl (K_ (hU (pv 0) rfl)) rfl (by decide+kernel) (λ_ _ _ _=>(iK (i:=2) xl.nd rfl (Or.inl rfl))) (λ_ _ _ _=>⟨_,oO (jw (pV (by exact iS hr) (pv 2) (Af hr (hU (pv 0) rfl) (pv 1)))),by(try simp only [kR]);rfl⟩) (λ_ _ _ _=>Bz (pv 2))))))),?_⟩
 refine Kt ?_;intro _
 refine⟨_,rfl,d,Y.dx,_,rfl,x.hd,rZ,_,rfl,d,D,W,st,rfl,X,hf,λhs=>?_,λhs=>qe hs⟩
 obtain⟨v1,_,qt,_,_,kv,v2,v3⟩:=x.vh st hs
 refine⟨_,rfl,d,A.g_,Y.dx,_,_,rfl,x.hd,O.iB,O.i7,rY _ _ _,Y.m,Y.kM,rfl,x.hm,λo uz=>?_⟩
 have Mf:=mq x.km
 have P_:D.names.length=D.made.length:=by unfold Dk.names;rw[QU]
 have Ur:d≠Y.m:=jc x.hd x.hm (λz=>by cases z)
 have f:∀{b u},H b=some u->b≠Y.m->upd H Y.m (.oh o (.dK Y.kM)) b=some u:=λ{b u} e n=>by rw[de n];exact e
 refine La (by omega) (λi ys Z H3=>∃(v2:Option V)(zs:List Str),Z=[rr d,rs st,v2]/\H3=upd H Y.m (.oh o (.dK Y.kM))/\ys=gi zs/\zs=(D.names.take i).filter λx=>x∈D.held st) ⟨none,[],rfl,rfl,rfl,rfl⟩ (λi ys Z H3 ⟨_,zs,_,e,e2,e3⟩=>?_) ?_ ?_
 ·rw[e,e2,e3]
  refine⟨a_,?_⟩
  rw[QU]
  exact aao (aaM _ _) (by rw[aaA];omega)
 ·rintro i k v ys Z H3 hi ⟨v0,zs,rfl,rfl,rfl,e3⟩
  obtain⟨y,hy,rfl⟩:=Hb x.km hi
  refine⟨_,rfl,_,rfl,d,A.g_,Y.dx,_,_,rfl,f x.hd Ur,O.iB,O.i8,rX _ _ _,_,rfl,Y.h,.ref (Y.ha st),rfl,?_,Y.ha st,_,rfl,jg.k (k:=sk y) (f v2 qt),_,rfl,?_⟩
  ·have:=jg.k (k:=sk st) (f x.hh x.mh.symm)
   rw[v1] at this
   exact this
  ·rw[sI v3,take_snoc hy,aaH]
   by_cases hm:y∈D.held st
   ·rw[V7 hm]
    refine oM ⟨_,rfl,_,_,rfl,rfl,i3 _ _,?_⟩
    rw[e3,aad (by simpa using hm),aaX]
   ·rw[aai hm]
    refine j_ ⟨_,_,rfl,rfl,rfl,?_⟩
    rw[e3,aaf (by simpa using hm),aaX,aaJ]
 ·rintro ys Z H3 ⟨v0,zs,rfl,rfl,rfl,e3⟩ p Eo
  rw[Mf,aav] at e3
  have Kc:p≠Y.m:=λz=>by rw[z,a_] at Eo;cases Eo
  have Gq:H p=none:=by rw[de Kc] at Eo;exact Eo
  refine⟨Y.m,o,_,by rw[de Kc.symm];exact a_,uz,?_⟩
  rw[FO x.hm Kc]
  have:=q hs p Gq
  unfold Dk.has at this
  rw[<-e3] at this
  exact this
def Rj(A:Ad):Sp:=λvs H Q E=>∃(d:Addr)(D:Dk)(W:Addr->Prop)(s:Str),vs=[.ref d,.str s]/\iY A H d D W/\sZ s/\z7 D.made.length/\(s∉D.stores->E (.ref A.jm) none H)/\(s∈D.stores->∀p H',gg H H'->H p=none->wD A H' p (D.kc s)->Q (.ref p) H')
theorem tT(T:Txt mg)(O:Ok K mg A):iq P w K mg base (xU P w) 3 A.oF A.oG ["self","store"] (Rj A):=by
 have n6:=@E6 P w K mg base A T O
 refine O.mV.f.yV nU λjv A0 outer s H vs Q E hr h=>?_
 obtain⟨d,D,W,st,rfl,X,hf,kL,qe,q⟩:=h
 obtain⟨Y,x⟩:=id X
 have Ec:D.made.length<=4000:=kL
 have sz:sizeLine=16777216:=aaE
 have qP:(D.kc st).length<=D.made.length:=aaM _ _
 refine⟨_,(eV (ia (tw oB (f_ j5).names [2] rfl (iH (Lj bx (pv 0) O.iB O.vw n6 hr (ak (pv 1) d_))) rfl (by decide+kernel) (λ_ _ _ _=>(iK (i:=2) nU.nd rfl (Or.inl rfl))) (λ_ _ _ _=>oN) (λ_ _ _ _=>Bz (Af hr (hU (pv 0) rfl) (pv 2)))))),?_⟩
 refine⟨_,rfl,d,Y.dx,_,rfl,x.hd,E5,_,rfl,d,D,W,st,rfl,X,hf,kL,λhs=>qe hs,λhs p Eo=>?_⟩
 rw[Dk.FT]
 have s1:gg H (upd H p (.lst (gi ((D.kc st).map (·.nm))))):=(gg.refl H).new Eo
 have vJ:(upd H p (.lst (gi ((D.kc st).map (·.nm))))) p=some (.lst (gi ((D.kc st).map (·.nm)))):=a_
 generalize upd H p (.lst (gi ((D.kc st).map (·.nm))))=H1 at s1 vJ
 let Jv:=λ(i:Nat) (ys:List V) (Z:St) (H3:Hp)=>∃(v2:Option V)(as:List Addr),Z=[rr d,rs st,v2]/\H3=H1/\ys=as.map V.ref/\Paired (pP A H) as ((D.kc st).take i)
 refine⟨p,rfl,⟨_,h_.of vJ⟩,ky (K:=K) (a:=p) (xs:=gi ((D.kc st).map (·.nm))) (by rw[QU,QU];omega) Jv
  ⟨none,[],rfl,rfl,rfl,.nil⟩ (λi ys Z H3 _ ⟨_,as,_,e,e2,e3⟩=>?_) ?_ ?_⟩
 ·rw[e,e2]
  have:=aaj e3
  rw[aaA] at this
  exact⟨h_.of vJ,by rw[QU];omega⟩
 ·rintro i v ys Z H3 hx ⟨v2,as,rfl,rfl,rfl,e3⟩
  obtain⟨y,hy,rfl⟩:=sy hx
  rw[YI] at hy
  obtain⟨pt,KC,rfl⟩:=Option.map_eq_some_iff.mp hy
  have Aw:pt∈D.made:=(Inv.lC.mp (Xj KC)).1
  obtain⟨a,z1,z2⟩:=x.vm pt Aw
  refine⟨_,rfl,d,A.g_,Y.dx,_,_,rfl,s1 _ _ x.hd,O.iB,O.i7,rY _ _ _,_,rfl,Y.m,.ref a,rfl,?_,?_⟩
  ·have:=jg.k (k:=sk pt.nm) (s1 _ _ x.hm)
   rw[z1] at this
   exact this
  ·refine⟨_,as++[a],rfl,rfl,by rw[aar];rfl,?_⟩
   rw[take_snoc KC]
   exact ix e3 z2
 ·rintro ys Z H3 ⟨v2,as,rfl,rfl,rfl,e3⟩ r qS
  have e0:(gi ((D.kc st).map (·.nm))).length=(D.kc st).length:=by rw[QU,QU]
  rw[e0,aav] at e3
  have s2:=s1.new (o:=.lst (as.map V.ref)) qS
  exact q hs r _ s2 (s1.free qS) ⟨as,a_,Paired.j0 e3 λ_ _ z=>z.same s2⟩
def LM(A:Ad):Sp:=λvs H Q E=>∃(d:Addr)(D:Dk)(W:Addr->Prop)(s f:Str),vs=[.ref d,.str s,.str f]/\iY A H d D W/\sZ s/\Small D.made/\Inv D/\(s∉D.stores->E (.ref A.jm) none H)/\(s∈D.stores->∀p H',gg H H'->H p=none->E1 A H' p (gk (D.kc s) f) (D.row s f)->Q (.ref p) H')
theorem sd(T:Txt mg)(O:Ok K mg A):iq P w K mg base (xU P w) 5 A.qL A.qM ["self","store","file"] (LM A):=by
 have wW:=@As P w K mg base A T O
 have lM:=@tT P w K mg base A T O
 refine O.my.f.yV wx λjv A0 outer s H vs Q E hr h=>?_
 obtain⟨d,D,W,st,f,rfl,X,hf,sm,I,qe,q⟩:=h
 obtain⟨Y,x⟩:=id X
 refine⟨_,(eV (ia (Bo O.Lx wW (hr.mono (by decide)) (by rfl) O.Ly O.rJ.b .nil o6 (ak (Lj bx (pv 0) O.iB O.mV lM hr (ak (pv 1) d_)) (ak (pv 2) d_))))),?_⟩
 refine⟨_,rfl,d,Y.dx,_,rfl,x.hd,tR,_,rfl,d,D,W,st,rfl,X,hf,sm.many,λhs=>qe hs,λhs a H1 s1 ha0 Qe=>?_⟩
 refine⟨_,rfl,?_⟩
 intro p px np WS nxp
 have s2:gg H1 (upd (upd H1 px (.own p)) p (.ins A.ic px [])):=λb o e=>by
  rw[de (gc e np),de (gc e WS)]
  exact e
 refine⟨p,px,a,D.kc st,f,rfl,a_,Qe.same s2,sm.sub (Inv.p9 st),I.nodup st f,I.closed hs f,I.N9 st f,λH' k sg=>⟨rfl,?_⟩⟩
 exact q hs p H' (λb o e=>k b o (s2 b o (s1 b o e)) (gc (s1 b o e) np)) (s1.free np) sg
theorem Jt{D:Dk}(I:Inv D)(s f:Str):∀l∈D.row s f,l.nm∈(gk (D.kc s) f).map (·.nm):=λl hl=>Vi ((jB _ f).subset ((I.lD s f).subset hl))
def Oy(A:Ad):Sp:=λvs H Q E=>∃(d:Addr)(D:Dk)(W:Addr->Prop)(s f:Str),vs=[.ref d,.str s,.str f]/\iY A H d D W/\sZ s/\Small D.made/\Inv D/\(s∉D.stores->E (.ref A.jm) none H)/\(s∈D.stores->∀p H',gg H H'->H p=none->lS H' p (D.row s f)->Q (.ref p) H')
theorem Oz(T:Txt mg)(O:Ok K mg A):iq P w K mg base (xU P w) 6 A.zd A.ze ["self","store","file"] (Oy A):=by
 have j1:=@sd P w K mg base A T O
 refine O.DB.f.yV xm λjv A0 outer s H vs Q E hr h=>?_
 obtain⟨d,D,W,st,f,rfl,X,hf,sm,I,qe,q⟩:=h
 obtain⟨Y,x⟩:=id X
 have sz:sizeLine=16777216:=aaE
 have Fs:(D.row st f).length<=4000:=aao (I.BG st f) sm.iF
 refine⟨_,(eV (ia (tw y_ (f_ qh).names [3] rfl (iH (hU (Lj bx (pv 0) O.iB O.my j1 hr (ak (pv 1) (ak (pv 2) d_))) rfl)) rfl (by decide+kernel) (λ_ _ _ _=>(iK (i:=3) xm.nd rfl (Or.inl rfl))) (λ_ _ _ _=>oN) (λ_ _ _ _=>Bz (kF (ak (jA lW (hU (pv 3) rfl) e_ (λ_ _=>rfl)) (ak (jA lW (hU (pv 3) rfl) e_ (λ_ _=>rfl)) (ak (hU (pv 3) rfl) d_)))))))),?_⟩
 refine⟨_,rfl,d,Y.dx,_,rfl,x.hd,r9,_,rfl,_,rfl,d,D,W,st,f,rfl,X,hf,sm,I,λhs=>qe hs,λhs p H1 s1 Eo ⟨px,ah,l,g1,g2,⟨as,g3,g4⟩⟩=>?_⟩
 have hlen:=aaj g4
 let Jv:=λ(i:Nat) (ys:List V) (Z:St) (H4:Hp)=>∃(v3:Option V),Z=[rr d,rs st,rs f,v3]/\gg H1 H4/\Paired (Av H4) ys ((D.row st f).take i)
 refine⟨p,A.ic,px,_,_,rfl,g1,O.j8,O.iw,ml ah l,l,rfl,⟨_,h_.of g3⟩,ky (K:=K) (a:=l) (xs:=as.map V.ref) (by rw[QU];omega) Jv
  ⟨none,rfl,gg.refl _,.nil⟩ (by rintro _ _ _ _ _ ⟨_,_,e,e2⟩;exact⟨h_.of (e _ _ g3),by rw[aaj e2,aaA];omega⟩) ?_ ?_⟩
 ·rintro i v ys Z H4 hx ⟨v3,rfl,s4,e2⟩
  obtain⟨b,hb,rfl⟩:=jR hx
  obtain⟨ln,uy,Qc,vn,vu,vl,k1,⟨nt,rfl,k2⟩,k3,k4⟩:=il g4 hb
  refine⟨_,rfl,b,A.hX,Qc,_,_,rfl,s4 _ _ k1,O.iO,O.hZ,i0,nt,_,_,_,rfl,rfl,qT.of (s4 _ _ k2),ig (j:=0) rfl rfl,?_⟩
  refine⟨_,rfl,b,A.hX,Qc,_,_,rfl,s4 _ _ k1,O.iO,O.hZ,i0,nt,_,_,_,rfl,rfl,qT.of (s4 _ _ k2),ig (j:=1) rfl rfl,?_⟩
  refine⟨_,rfl,b,A.hX,Qc,_,_,rfl,s4 _ _ k1,O.iO,O.jI,zm,L2.kL,λt ht=>?_⟩
  have s5:=(gg.refl H4).new (o:=.tup [.str ln.nm.1,.int ln.nm.2,.str ln.tx]) ht
  refine⟨_,rfl,s4.trans s5,?_⟩
  rw[take_snoc uy]
  exact ix (Paired.j0 e2 λ_ _ z=>z.same s5) ⟨t,rfl,a_⟩
 ·rintro ys Z H4 ⟨v3,rfl,s4,e2⟩ r qS
  rw[QU,hlen,aav] at e2
  have s5:=(s1.trans s4).new (o:=.lst ys) qS
  exact q hs r _ s5 ((s1.trans s4).free qS) ⟨ys,a_,Paired.j0 e2 λ_ _ z=>z.same ((gg.refl H4).new qS)⟩
def Rl(A:Ad):Sp:=λvs H Q E=>∃(d:Addr)(D:Dk)(W:Addr->Prop)(s f:Str),vs=[.ref d,.str s,.str f]/\iY A H d D W/\sZ s/\Small D.made/\Inv D/\(s∉D.stores->E (.ref A.jm) none H)/\(s∈D.stores->∀p H' vs,gg H H'->H p=none->H' p=some (.lst vs)->i9 H' (D.sV s f) vs->Q (.ref p) H')
theorem xP(T:Txt mg)(O:Ok K mg A):iq P w K mg base (xU P w) 6 A.qJ A.qK ["self","store","file"] (Rl A):=by
 have j1:=@sd P w K mg base A T O
 have kK:=@rV P w K mg base A T O
 refine O.oS.f.yV wu λjv A0 outer s H vs Q E hr h=>?_
 obtain⟨d,D,W,st,f,rfl,X,hf,sm,I,qe,q⟩:=h
 obtain⟨Y,x⟩:=id X
 have Fs:(D.row st f).length<=4000:=aao (I.BG st f) sm.iF
 refine⟨_,(eV (ia (uF (Lj bx (pv 0) O.iB O.my j1 hr (ak (pv 1) (ak (pv 2) d_))) O.j8 O.jH.t kK (hr.mono (by decide)) O.jH.b .nil o6))),?_⟩
 refine⟨_,rfl,d,Y.dx,_,rfl,x.hd,r9,_,rfl,_,rfl,d,D,W,st,f,rfl,X,hf,sm,I,λhs=>qe hs,λhs p H1 s1 Eo sg=>?_⟩
 obtain⟨px,ah,l,g1,g2,g3⟩:=id sg
 refine⟨p,px,_,rfl,g1,Jp ah l,p,_,_,rfl,sg,Jt I st f,Fs,λr H2 vs s2 qS tU z8=>?_⟩
 exact q hs r H2 vs (s1.trans s2) (s1.free qS) tU z8
end
theorem vD{xs ys:List Str}(nd:xs.Nodup)(h:∀x∈xs,x∈ys):xs.length<=ys.length:=by
 have:=len_sub (xs:=xs.map λk=>((k,0):Nm)) (ys:=ys.map λk=>(k,0)) (ab0.mpr (nd.imp λh z=>h (aaQ Prod.fst z))) λx hx=>by
  obtain⟨k,hk,rfl⟩:=List.mem_map.mp hx
  exact Vi (h k hk)
 rwa [QU,QU] at this
section
variable{A:Ad}{H:Hp}{x:Addr}{o:HO}{kv:List (Key×V)}
theorem lP.dk{a:Addr}{l:Ln}(h:lP A H a l)(hx:H x=some (.dK kv)):lP A (L2.upd H x o) a l:=lP.upd h hx (λ_ z=>by cases z) (λ_ _ _ z=>by cases z)
theorem pO.dk{a:Addr}{ls:List Ln}(h:pO A H a ls)(hx:H x=some (.dK kv)):pO A (L2.upd H x o) a ls:=by
 obtain⟨as,h1,h2⟩:=h
 exact⟨as,by rw[de (jc h1 hx (λz=>by cases z))];exact h1,Paired.j0 h2 λ_ _ z=>z.dk hx⟩
theorem x8.dk{a:Addr}{ns:List Nm}(h:x8 H a ns)(hx:H x=some (.dK kv)):x8 (L2.upd H x o) a ns:=by
 obtain⟨vs,h1,h2⟩:=h
 exact⟨vs,by rw[de (jc h1 hx (λz=>by cases z))];exact h1,Paired.j0 h2 λ_ _ z=>z.upd hx (λ_ z=>by cases z)⟩
theorem pP.dk{a:Addr}{p:Pt}(h:pP A H a p)(hx:H x=some (.dK kv)):pP A (L2.upd H x o) a p:=by
 obtain⟨dx,vf,pu,cu,vo,h0,h1,h2,h3,h4⟩:=h
 exact⟨dx,vf,pu,cu,vo,by rw[de (jc h0 hx (λz=>by cases z))];exact h0,h1,h2.dk hx,h3.dk hx,h4⟩
end
def DT(l:List Str)(m:Str):List Str:=if m∈l then l else l++[m]
theorem DU{l:List Str}{m x:Str}:x∈DT l m↔x∈l\/x=m:=by
 unfold DT
 split
 ·rename_i h
  exact⟨.inl,λz=>z.elim id λz=>z▸h⟩
 ·simp
theorem F_{l:List Str}{m:Str}(h:l.Nodup):(DT l m).Nodup:=by
 unfold DT
 split
 ·exact h
 ·rename_i hm
  rw[aa5]
  exact⟨h,by simp,λa ha b hb z=>hm (by rw[Sd.mp hb] at z;exact z▸ha)⟩
theorem Ba{dk:List (Key×V)}{l:List Str}(h:dk.map (·.1)=l.map sk)(m:Str)(v:V):(putK dk (sk m) v).map (·.1)=(DT l m).map sk:=by
 rw[pQ,h]
 unfold DT
 by_cases e:m∈l
 ·rw[aag (zu.mpr e),aag e]
 ·rw[aac (λz=>e (zu.mp z)),aac e,aar];rfl
theorem Bb:∀(more:List (Key×V))(dk:List (Key×V))(l r:List Str),dk.map (·.1)=l.map sk->more.map (·.1)=r.map sk->l.Nodup->∃l':List Str,(putAll dk more).map (·.1)=l'.map sk/\l'.Nodup/\∀m,m∈l'↔m∈l\/m∈r
 | [],dk,l,r,h1,h2,nd=>by
  have:r=[]:=by cases r with|nil=>rfl|cons _ _=>cases h2
  subst this
  exact⟨l,h1,nd,λm=>by simp⟩
 | p::t,dk,l,r,h1,h2,nd=>by
  cases r with
  | nil=>cases h2
  | cons x r=>
   rw[aat,aat] at h2
   injection h2 with e1 e2
   rw[qZ,e1]
   obtain⟨l',z1,z2,z3⟩:=Bb t (putK dk (sk x) p.2) (DT l x) r (Ba h1 x _) e2 (F_ nd)
   refine⟨l',z1,z2,λm=>?_⟩
   rw[z3 m,DU,V9,or_assoc]
section
variable{P:Program}{w:World}{K:Qqy}{mg:Qqx}{base:Heap}{A:Ad}
def LO(A:Ad):Sp:=λvs H Q E=>∃(d:Addr)(D:Dk)(W:Addr->Prop)(s:Str),vs=[.ref d,.str s]/\iY A H d D W/\sZ s/\D.stores.length<1000/\(¬Good s->E (.ref A.j3) none H)/\(Good s->s∈D.stores->E (.ref A.jX) none H)/\
 (Good s->s∉D.stores->∀H' W',iY A H' d (D.begin s) W'->FZ W H H'->(∀b,W' b->W b\/H b=none)->Q .jb H')
theorem Ju(T:Txt mg)(O:Ok K mg A):iq P w K mg base (xU P w) 2 A.u_ A.va ["self","store"] (LO A):=by
 have qv:=@tS P w K mg base A T O
 refine O.zg.f.yV Ai λjv A0 outer s H vs Q E hr h=>?_
 obtain⟨d,D,W,st,rfl,X,hf,hlen,q1,q2,q3⟩:=h
 obtain⟨Y,x⟩:=id X
 have sz:sizeLine=16777216:=aaE
 refine⟨_,(c_ (iu (YH bx O.uj qv hr (ak (pv 1) d_)))
   (c_ (iJ (jw (pV (by exact iS hr) (pv 1) (hU (pv 0) rfl))) (eV (nJ bx O.xN (by rfl) (pX (je jn (je (ub (pv 1)) (je jn ua)))))) ie)
   (eV (jd (by exact iS hr) (hU (pv 0) rfl) (pv 1) mD rfl)))),?_⟩
 refine Em ?_;intro _ _
 refine⟨_,rfl,st,rfl,hf,λg=>?_,λng=>q1 ng⟩
 refine⟨_,rfl,_,rfl,d,A.g_,Y.dx,_,_,rfl,x.hd,O.iB,O.i8,rX _ _ _,Y.h,_,rfl,jg.k (k:=sk st) x.hh,_,rfl,?_⟩
 rw[sI x.kh]
 by_cases hs:st∈D.stores
 ·rw[V7 hs]
  refine oM ⟨_,rfl,by decide+kernel,⟨_,rfl,_,rfl,hf.1,_,rfl,hf.1,⟨_,rfl,by decide+kernel,λ_=>q2 g hs⟩⟩⟩
 ·rw[aai hs]
  refine j_ ?_
  intro p Eo
  have fr:∀{b o},H b=some o->b≠p:=λe=>gc e Eo
  have Sr:(upd H p (.dK [])) Y.h=some (.dK Y.kH):=by rw[de (fr x.hh)];exact x.hh
  have Mf:=mq x.kh
  refine⟨_,rfl,d,A.g_,Y.dx,_,_,rfl,by rw[de (fr x.hd)];exact x.hd,O.iB,O.i8,rX _ _ _,_,rfl,Y.h,_,rfl,mB.k (k:=sk st) Sr (by omega),?_⟩
  have s1:gg H (upd H p (.dK [])):=(gg.refl H).new Eo
  have up:∀{b o},H b=some o->b≠Y.h->upd (upd H p (.dK [])) Y.h (.dK (putK Y.kH (sk st) (.ref p))) b=some o:=λ{b o} e n=>by rw[de n];exact s1 _ _ e
  have WT:p≠Y.h:=(fr x.hh).symm
  refine q3 g hs _ (λb=>W b\/b=p) ⟨⟨Y.dx,Y.m,Y.n,Y.h,λt=>if t=st then p else Y.ha t,Y.kM,Y.kN,putK Y.kH (sk st) (.ref p)⟩,?_⟩ (λb o e nw=>?_) (λb hb=>?_)
  ·exact{
    hd:=up x.hd (jc x.hd x.hh (λz=>by cases z))
    hm:=up x.hm x.mh
    hn:=up x.hn x.nh
    hh:=a_
    mn:=x.mn
    mh:=x.mh
    nh:=x.nh
    wm:=.inl x.wm
    wn:=.inl x.wn
    wh:=.inl x.wh
    km:=x.km
    vm:=λq hq=>by obtain⟨a,h1,h2⟩:=x.vm q hq;exact⟨a,h1,(h2.same s1).dk Sr⟩
    kn:=x.kn
    vn:=λy hy=>by
     obtain⟨a,kv,l,h1,h2,h3,h4⟩:=x.vn y hy
     exact⟨a,kv,l,h1,λz=>z.elim h2 (fr h3),up h3 (λ(z:a=Y.h)=>h2 (by rw[z];exact x.wh)),h4⟩
    kh:=sJ x.kh hs _
    vh:=λt ht=>by
     show iA (putK Y.kH (sk st) (.ref p)) (sk t)=some (.ref (if t=st then p else Y.ha t))/\(W (if t=st then p else Y.ha t)\/(if t=st then p else Y.ha t)=p)/\(if t=st then p else Y.ha t)≠Y.m/\(if t=st then p else Y.ha t)≠Y.n/\(if t=st then p else Y.ha t)≠Y.h/\∃kv:List (Key×V),(upd (upd H p (.dK [])) Y.h (.dK (putK Y.kH (sk st) (.ref p)))) (if t=st then p else Y.ha t)=some (.dK kv)/\kv.map (·.1)=(if t=st then[] else D.held t).map sk
     rw[jq]
     by_cases e:t=st
     ·subst e
      rw[aag rfl,aag rfl,aag rfl]
      exact⟨rfl,.inr rfl,(fr x.hm).symm,(fr x.hn).symm,WT,[],by rw[de WT];exact a_,rfl⟩
     ·have Qf:t∈D.stores:=(YD.mp ht).elim id λz=>absurd (Sd.mp z) e
      rw[aac (λz=>e (acv z)),aac e,aac e]
      obtain⟨h1,h2,h3,h4,h5,kv,h6,h7⟩:=x.vh t Qf
      exact⟨h1,.inl h2,h3,h4,h5,kv,up h6 h5,h7⟩
    inj:=λt ht u hu e=>by
     have e:(if t=st then p else Y.ha t)=(if u=st then p else Y.ha u):=e
     by_cases e1:t=st
     ·by_cases e2:u=st
      ·rw[e1,e2]
      ·have WU:u∈D.stores:=(YD.mp hu).elim id λz=>absurd (Sd.mp z) e2
       rw[aag e1,aac e2] at e
       obtain⟨_,_,_,_,_,kv,h6,_⟩:=x.vh u WU
       exact absurd e.symm (fr h6)
     ·have Qf:t∈D.stores:=(YD.mp ht).elim id λz=>absurd (Sd.mp z) e1
      by_cases e2:u=st
      ·rw[aac e1,aag e2] at e
       obtain⟨_,_,_,_,_,kv,h6,_⟩:=x.vh t Qf
       exact absurd e (fr h6)
      ·have WU:u∈D.stores:=(YD.mp hu).elim id λz=>absurd (Sd.mp z) e2
       rw[aac e1,aac e2] at e
       exact x.inj t Qf u WU e
    dk:=λb hb=>by
     by_cases e:b=Y.h
     ·rw[e];exact⟨_,a_⟩
     ·rcases hb with hb|hb
      ·obtain⟨kv,h⟩:=x.dk b hb;exact⟨kv,up h e⟩
      ·rw[hb];exact⟨[],by rw[de WT];exact a_⟩}
  ·exact up e (λ(z:b=Y.h)=>nw (by rw[z];exact x.wh))
  ·rcases hb with hb|hb
   ·exact .inl hb
   ·rw[hb];exact .inr Eo
def Rm(A:Ad):Sp:=λvs H Q E=>∃(d l:Addr)(D:Dk)(W:Addr->Prop)(x:Str)(fs:List Str),vs=[.ref d,.str x,.ref l]/\iY A H d D W/\H l=some (.lst (gi fs))/\fs.length<=1000/\(∀y∈x::fs,sZ y)/\
 ((¬∀y∈x::fs,Good y)->∀H',gg H H'->E (.ref A.j3) none H')/\((∀y∈x::fs,Good y)->x∈D.names->∀H',gg H H'->E (.ref A.jX) none H')/\((∀y∈x::fs,Good y)->x∉D.names->∀H',gg H H'->Q .jb H')
theorem B4(T:Txt mg)(O:Ok K mg A):iq P w K mg base (xU P w) 2 A.pJ A.pK ["self","patch","files"] (Rm A):=by
 have qv:=@tS P w K mg base A T O
 refine O.rM.f.yV oC λjv A0 outer s H vs Q E hr h=>?_
 obtain⟨d,l,D,W,y,fs,rfl,X,hl,Gr,M_,q1,q2,q3⟩:=h
 obtain⟨Y,x⟩:=id X
 have sz:sizeLine=16777216:=aaE
 refine⟨_,(c_ (iI QO rfl (iH (gn oK (ji (ak (pv 1) d_)) (pv 2))) (uc 3 oC) (eV (iu (YH bx O.uj qv hr (ak (pv 3) d_)))))
   (eV (iJ (jw (pV (by exact iS hr) (pv 1) (hU (pv 0) rfl))) (eV (nJ bx O.xN (by rfl) (pX (je jn (je (ub (pv 1)) (je jn ua)))))) ie))),?_⟩
 refine Kt ?_;intro _
 refine⟨_,rfl,L2.kL,λa ha=>?_⟩
 have s1:gg H (upd H a (.lst [V.str y])):=(gg.refl H).new ha
 refine⟨_,rfl,a,l,_,_,rfl,rfl,a_,s1 _ _ hl,by rw[QU];show 1+_<=_;omega,λb hb=>?_⟩
 have s2:=s1.new (o:=.lst ([V.str y]++gi fs)) hb
 have O9:(upd (upd H a (.lst [V.str y])) b (.lst ([V.str y]++gi fs))) b=some (.lst (gi (y::fs))):=a_
 generalize upd (upd H a (.lst [V.str y])) b (.lst ([V.str y]++gi fs))=H2 at s2 O9
 let Jv:=λ(i:Nat) (Z:St) (H3:Hp)=>∃v,Z=[rr d,rs y,rr l,v]/\H3=H2/\∀z∈(y::fs).take i,Good z
 refine⟨b,rfl,⟨_,h_.of O9⟩,jy (K:=K) (a:=b) (xs:=gi (y::fs)) Jv ⟨none,rfl,rfl,λz hz=>by rw[abU] at hz;cases hz⟩ (by rintro _ _ _ _ ⟨_,_,e,_⟩;rw[e];exact h_.of O9) ?_ ?_⟩
 ·rintro i v Z H3 hx ⟨v0,rfl,rfl,hg⟩
  obtain⟨z,hz,rfl⟩:=sy hx
  refine⟨_,rfl,z,rfl,M_ z (Xj hz),λg=>?_,λng=>q1 (λh=>ng (h z (Xj hz))) _ s2⟩
  refine⟨_,rfl,rfl,λt ht=>?_⟩
  rw[take_snoc hz] at ht
  rcases YD.mp ht with ht|ht
  ·exact hg t ht
  ·rw[Sd.mp ht];exact g
 ·rintro Z H3 ⟨v0,rfl,rfl,hg⟩
  rw[QU,aav] at hg
  refine⟨_,rfl,_,rfl,d,A.g_,Y.dx,_,_,rfl,s2 _ _ x.hd,O.iB,O.i7,rY _ _ _,Y.m,_,rfl,jg.k (k:=sk y) (s2 _ _ x.hm),_,rfl,?_⟩
  rw[sI x.km]
  have hf:=M_ y aae
  by_cases hm:y∈D.names
  ·rw[V7 hm]
   exact oM ⟨_,rfl,by decide+kernel,⟨_,rfl,_,rfl,hf.1,_,rfl,hf.1,⟨_,rfl,by decide+kernel,λ_=>q2 hg hm _ s2⟩⟩⟩
  ·rw[aai hm]
   exact q3 hg hm _ s2
def OA(A:Ad):Sp:=λvs H Q _=>∃(d a:Addr)(D:Dk)(W:Addr->Prop)(s:Str)(p:Pt),vs=[.ref d,.str s,.ref a]/\iY A H d D W/\Inv D/\z7 D.made.length/\s∈D.stores/\pP A H a p/\p.nm∉D.names/\z7 p.iF.length/\z7 p.jx.length/\(∀y∈iz p,y∈D.names)/\
 ∀H',iY A H' d (D.keep s p) W->FZ W H H'->Q .jb H'
theorem B5(p:Pt):(iz p).length<=p.jx.length+2*p.iF.length+1:=by
 unfold iz
 rw[Vh,QU]
 have h1:=aaM (λn:Nm=>decide (n.1≠p.nm)) (named p)
 have h2:=A9 p
 have h3:p.other.toList.length<=1:=by cases p.other<;>simp
 omega
theorem LP(T:Txt mg)(O:Ok K mg A):iq P w K mg base lN 3 A.xw A.xx ["self","store","patch"] (OA A):=by
 have tj:=@rW P w K mg base A T O
 refine O.A3.f.pR ql λjv A0 outer s H vs Q E hr h=>?_
 obtain⟨d,a,D,W,st,p,rfl,X,I,kL,hs,KC,fresh,Ft,Ee,Fn,q⟩:=h
 obtain⟨Y,x⟩:=id X
 have Ec:D.made.length<=4000:=kL
 have M7:p.iF.length<=4000:=Ft
 have Kb:p.jx.length<=4000:=Ee
 have sz:sizeLine=16777216:=aaE
 have P_:D.names.length=D.made.length:=by unfold Dk.names;rw[QU]
 have VW:=B5 p
 refine⟨_,(c_ (lg 3 ql mD)
   (c_ (iI aap rfl (iH (n_ O.oH tj hr (ak (pv 2) d_))) (uc 4 ql) (c_ (jd (by exact iS hr) (pv 3) (pv 4) mz rfl)
   (eV (iu (IK (pv 3) (Af hr (hU (pv 0) rfl) (pv 4)) ⟨rfl,rfl,rfl,rfl⟩)))))
   (c_ (jd (by exact iS hr) (hU (pv 0) rfl) (hU (pv 2) rfl) (pv 3) rfl)
   (c_ (jd (by exact iS hr) (hU (pv 0) rfl) (hU (pv 2) rfl) (pv 2) rfl)
   (eV (jd (by exact iS hr) (Af hr (hU (pv 0) rfl) (pv 1)) (hU (pv 2) rfl) mz rfl)))))),?_⟩
 refine ME ?_;intro _ _ _ _
 intro nd O1
 have s1:gg H (upd H nd (.dK [])):=(gg.refl H).new O1
 have Pg:(upd H nd (.dK [])) nd=some (.dK []):=a_
 generalize upd H nd (.dK [])=H1 at s1 Pg
 refine⟨_,rfl,a,p,rfl,KC.same s1,Ft,Ee,λr H2 s2 qS tU=>?_⟩
 have Kd:=s1.trans s2
 have hrn:r≠nd:=λz=>by rw[z,Pg] at qS;cases qS
 have Us:¬W nd:=X.jb O1
 let Jv:=λ(i:Nat) (Z:St) (H3:Hp)=>∃(v:Option V)(kv:List (Key×V))(l:List Str),Z=[rr d,rs st,rr a,rr nd,v]/\(∀b o,H2 b=some o->b≠nd->H3 b=some o)/\H3 nd=some (.dK kv)/\kv.map (·.1)=l.map sk/\l.Nodup/\∀y,y∈l↔∃z∈(iz p).take i,y=z\/y∈D.iV z
 refine⟨r,rfl,⟨_,h_.of tU⟩,jy (K:=K) (a:=r) (xs:=gi (iz p)) Jv
  ⟨none,[],[],rfl,λb o e _=>e,s2 _ _ Pg,rfl,abh,λy=>by simp⟩ (by rintro _ _ _ _ ⟨_,_,_,_,e,_⟩;exact h_.of (e _ _ tU hrn)) ?_ ?_⟩
 ·rintro i v Z H3 hx ⟨v0,kv,l,rfl,e1,e2,e3,e4,e5⟩
  obtain⟨z,hz,rfl⟩:=sy hx
  have hzm:z∈iz p:=Xj hz
  have ZA:z∈D.names:=Fn z hzm
  obtain⟨az,kz,lz,z1,z2,z3,z4,z5,z6⟩:=x.vn z ZA
  have x_:∀y∈l,y∈D.names:=λy hy=>by
   obtain⟨t,ht,h⟩:=(e5 y).mp hy
   have ZC:=Fn t (List.mem_of_mem_take ht)
   rcases h with h|h
   ·rw[h];exact ZC
   ·exact I.yj ZC h
  have Zj:=vD e4 x_
  have hlz:=vD z5 λy hy=>I.yj ZA ((z6 y).mp hy)
  have Mf:=mq e3
  have hkz:=mq z4
  have Y_:=iQ kv (sk z) (V.bl true)
  have WV:az≠nd:=λe=>by rw[e,O1] at z3;cases z3
  refine⟨_,rfl,_,rfl,nd,_,rfl,mB.k (k:=sk z) e2 (by omega),?_⟩
  have up:∀{b o},H b=some o->upd H3 nd (.dK (putK kv (sk z) (V.bl true))) b=some o:=λ{b o} e=>by
   have n:b≠nd:=λz=>by rw[z,O1] at e;cases e
   rw[de n];exact e1 _ _ (Kd _ _ e) n
  refine⟨_,rfl,nd,rfl,.inl ⟨_,.inl a_⟩,_,rfl,d,A.g_,Y.dx,_,_,rfl,up x.hd,O.iB,O.jM,A_ _ _ _,_,rfl,Y.n,.ref az,rfl,?_,az,_,kz,rfl,a_,.inl (up z3),WV.symm,by omega,?_⟩
  ·have:=jg.k (k:=sk z) (up x.hn)
   rw[z1] at this
   exact this
  ·obtain⟨l',w1,w2,w3⟩:=Bb kz _ (DT l z) lz (Ba e3 z (V.bl true)) z4 (F_ e4)
   refine⟨_,_,l',rfl,λb o e n=>by rw[de n,de n];exact e1 b o e n,a_,w1,w2,λy=>?_⟩
   rw[w3 y,DU,e5 y,z6 y,take_snoc hz]
   constructor
   ·rintro((⟨t,ht,h⟩|h)|h)
    ·exact⟨t,aan _ ht,h⟩
    ·exact⟨z,by simp,.inl h⟩
    ·exact⟨z,by simp,.inr h⟩
   ·rintro⟨t,ht,h⟩
    rcases YD.mp ht with ht|ht
    ·exact .inl (.inl ⟨t,ht,h⟩)
    ·rw[Sd.mp ht] at h
     exact h.elim (λh=>.inl (.inr h)) .inr
 ·rintro Z H3 ⟨v0,kv,l,rfl,e1,e2,e3,e4,e5⟩
  rw[QU,aav] at e5
  have s3:gg H H3:=λb o e=>e1 b o (Kd _ _ e) (λz=>by rw[z,O1] at e;cases e)
  obtain⟨dx,vf,pu,cu,vo,g1,g2⟩:=KC.same s3
  have y:=x.same s3
  have hnM:=mq x.km
  have hnN:=mq x.kn
  obtain⟨v1,v2,v3,v4,v5,ZD,v6,v7⟩:=y.vh st hs
  have hkv0:=mq v7
  have hhl:=vD (I.xj st hs) λt ht=>(I.ox st hs t ht).1
  refine⟨_,rfl,_,rfl,d,A.g_,Y.dx,_,_,rfl,y.hd,O.iB,O.jM,A_ _ _ _,_,rfl,a,A.hV,dx,_,_,rfl,g1,O.i6,O.iT,rO,Y.n,_,rfl,mB.k (k:=sk p.nm) y.hn (by omega),?_⟩
  have f1:∀{b o},H3 b=some o->b≠Y.n->upd H3 Y.n (.dK (putK Y.kN (sk p.nm) (.ref nd))) b=some o:=λ{b o} e n=>by rw[de n];exact e
  have KA:d≠Y.n:=jc y.hd y.hn (λz=>by cases z)
  have ZE:a≠Y.n:=jc g1 y.hn (λz=>by cases z)
  have Ur:d≠Y.m:=jc y.hd y.hm (λz=>by cases z)
  have ham:a≠Y.m:=jc g1 y.hm (λz=>by cases z)
  refine⟨_,rfl,_,rfl,d,A.g_,Y.dx,_,_,rfl,f1 y.hd KA,O.iB,O.i7,rY _ _ _,_,rfl,a,A.hV,dx,_,_,rfl,f1 g1 ZE,O.i6,O.iT,rO,Y.m,_,rfl,mB.k (k:=sk p.nm) (f1 y.hm x.mn) (by omega),?_⟩
  have f2:∀{b o},H3 b=some o->b≠Y.n->b≠Y.m->upd (upd H3 Y.n (.dK (putK Y.kN (sk p.nm) (.ref nd)))) Y.m (.dK (putK Y.kM (sk p.nm) (.ref a))) b=some o:=λ{b o} e n m=>by rw[de m];exact f1 e n
  refine⟨_,rfl,d,A.g_,Y.dx,_,_,rfl,f2 y.hd KA Ur,O.iB,O.i8,rX _ _ _,_,rfl,Y.h,.ref (Y.ha st),rfl,?_,_,rfl,a,A.hV,dx,_,_,rfl,f2 g1 ZE ham,O.i6,O.iT,rO,Y.ha st,_,rfl,mB.k (k:=sk p.nm) (f2 v6 v4 v3) (by omega),?_⟩
  ·have:=jg.k (k:=sk st) (f2 y.hh x.nh.symm x.mh.symm)
   rw[v1] at this
   exact this
  ·have hpn:p.nm∉D.held st:=λz=>fresh (I.ox st hs _ z).1
   have f3:∀{b o},H3 b=some o->b≠Y.n->b≠Y.m->b≠Y.ha st->upd (upd (upd H3 Y.n (.dK (putK Y.kN (sk p.nm) (.ref nd)))) Y.m (.dK (putK Y.kM (sk p.nm) (.ref a)))) (Y.ha st) (.dK (putK ZD (sk p.nm) (V.bl true))) b=some o:=λ{b o} e n m h=>by rw[de h];exact f2 e n m
   have f4:∀{b q},pP A H3 b q->pP A (upd (upd (upd H3 Y.n (.dK (putK Y.kN (sk p.nm) (.ref nd)))) Y.m (.dK (putK Y.kM (sk p.nm) (.ref a)))) (Y.ha st) (.dK (putK ZD (sk p.nm) (V.bl true)))) b q:=λz=>((z.dk y.hn).dk (f1 y.hm x.mn)).dk (f2 v6 v4 v3)
   have nW:∀{b},¬W b->b≠Y.n/\b≠Y.m/\b≠Y.ha st:=λ{b} h=>⟨λz=>h (by rw[z];exact x.wn),λz=>h (by rw[z];exact x.wm),λz=>h (by rw[z];exact v2)⟩
   refine q _ ⟨{Y with kM:=putK Y.kM (sk p.nm) (.ref a),kN:=putK Y.kN (sk p.nm) (.ref nd)},?_⟩ λb o e n=>f3 (s3 _ _ e) (nW n).1 (nW n).2.1 (nW n).2.2
   have Fv:(D.keep st p).names=D.names++[p.nm]:=by
    show(D.made++[p]).map (·.nm)=_
    rw[aar];rfl
   exact{
    hd:=f3 y.hd KA Ur (jc y.hd v6 (λz=>by cases z))
    hm:=by
     show upd _ (Y.ha st) _ Y.m=_
     rw[de v3.symm];exact a_
    hn:=by
     show upd _ (Y.ha st) _ Y.n=_
     rw[de v4.symm,de x.mn.symm];exact a_
    hh:=f3 y.hh x.nh.symm x.mh.symm v5.symm
    mn:=x.mn
    mh:=x.mh
    nh:=x.nh
    wm:=x.wm
    wn:=x.wn
    wh:=x.wh
    km:=by rw[Fv];exact sJ x.km fresh _
    vm:=λq hq=>by
     show ∃b,iA (putK Y.kM (sk p.nm) (.ref a)) (sk q.nm)=some (.ref b)/\_
     rw[jq]
     rcases YD.mp hq with hq|hq
     ·obtain⟨b,w1,w2⟩:=y.vm q hq
      have qt:q.nm≠p.nm:=λz=>fresh (by rw[<-z];exact Vi hq)
      rw[aac (λz=>qt (acv z))]
      exact⟨b,w1,f4 w2⟩
     ·rw[Sd.mp hq,aag rfl]
      exact⟨a,rfl,f4 (KC.same s3)⟩
    kn:=by rw[Fv];exact sJ x.kn fresh _
    vn:=λt ht=>by
     rw[Fv] at ht
     show ∃(b:Addr)(kv:List (Key×V))(l:List Str),iA (putK Y.kN (sk p.nm) (.ref nd)) (sk t)=some (.ref b)/\¬W b/\_/\kv.map (·.1)=l.map sk/\l.Nodup/\∀u,u∈l↔u∈(if t=p.nm then p8 D.iV p else D.iV t)
     rw[jq]
     by_cases e:t=p.nm
     ·rw[aag (by rw[e]),aag e]
      refine⟨nd,kv,l,rfl,Us,f3 e2 (nW Us).1 (nW Us).2.1 (nW Us).2.2,e3,e4,λu=>?_⟩
      rw[e5 u]
      unfold p8
      rw[aa4]
      exact⟨λ⟨z,h1,h2⟩=>⟨z,h1,V9.mpr h2⟩,λ⟨z,h1,h2⟩=>⟨z,h1,V9.mp h2⟩⟩
     ·rw[aac (λz=>e (acv z)),aac e]
      have Qf:t∈D.names:=(YD.mp ht).elim id λz=>absurd (Sd.mp z) e
      obtain⟨b,WW,l',w1,w2,w3,w4⟩:=y.vn t Qf
      exact⟨b,WW,l',w1,w2,f3 w3 (nW w2).1 (nW w2).2.1 (nW w2).2.2,w4⟩
    kh:=x.kh
    vh:=λt ht=>by
     obtain⟨h1,h2,h3,h4,h5,WW,h6,h7⟩:=y.vh t ht
     refine⟨h1,h2,h3,h4,h5,?_⟩
     show ∃kv:List (Key×V),_/\kv.map (·.1)=(if t=st then D.held st++[p.nm] else D.held t).map sk
     by_cases e:t=st
     ·subst e
      rw[aag rfl]
      exact⟨_,a_,sJ v7 hpn _⟩
     ·rw[aac e]
      exact⟨WW,f3 h6 h4 h3 (λz=>e (x.inj t ht st hs z)),h7⟩
    inj:=x.inj
    dk:=λb hb=>by
     by_cases h1:b=Y.ha st
     ·rw[h1];exact⟨_,a_⟩
     ·by_cases h2:b=Y.m
      ·rw[h2,de v3.symm];exact⟨_,a_⟩
      ·by_cases h3:b=Y.n
       ·rw[h3,de v4.symm,de x.mn.symm];exact⟨_,a_⟩
       ·obtain⟨kv,h⟩:=y.dk b hb
        exact⟨kv,f3 h h3 h2 h1⟩}
theorem zx(l:List Str):Paired (λ(x:Str) (v:V)=>v=.str x) l (gi l):=by
 induction l with
 | nil=>exact .nil
 | cons x r ih=>exact .cons rfl ih
theorem yl{n:Nat}{K:Qqy}{H:Hp}{a c:Addr}{x y:List Str}(h1:h_ K H a (gi x))(h2:h_ K H c (gi y)):o7 K H (n+1) (.ref a) (.ref c) (decide (x=y)):=
 o7.K6 (F:=λ(x:Str) (v:V)=>v=.str x) (λp q u v hu hv=>by subst hu hv;exact o7.Ip p q) h1 h2 (zx x) (zx y)
def uM(t:Addr)(H:Hp):Hp:=λb=>if b=t then none else H b
section
variable{t:Addr}{H H0:Hp}{xs:List V}
theorem zy{b:Addr}(h:b≠t):uM t H b=H b:=aac h
theorem Jw:uM t H t=none:=aag rfl
theorem OB{o:HO}(h:H t=some o):H=ov (upd (λ_=>none) t o) (uM t H):=by
 rw[<-vZ,EN]
 funext b
 by_cases e:b=t
 ·subst e;rw[a_,h]
 ·rw[de e,zy e]
theorem B6{b:Addr}{o:HO}(ht:H t=some (.lst xs))(h:H b=some o)(ho:∀ys,o≠.lst ys):uM t H b=some o:=by
 rw[zy]
 ·exact h
 ·intro e
  rw[e,ht] at h
  cases h
  exact ho _ rfl
theorem kI.uM{v:V}{n:Nm}(ht:H t=some (.lst xs))(x:kI H v n):kI (uM t H) v n:=by
 obtain⟨a,e,h⟩:=x
 exact⟨a,e,B6 ht h λ_ z=>by cases z⟩
theorem CN.uM{v:V}{n:Option Nm}(ht:H t=some (.lst xs))(x:CN H v n):CN (PK.uM t H) v n:=by
 cases n with
 | none=>exact x
 | some n=>exact kI.uM ht x
theorem lP.uM{A:Ad}{a:Addr}{l:Ln}(ht:H t=some (.lst xs))(x:lP A H a l):lP A (PK.uM t H) a l:=by
 obtain⟨dx,vn,vu,vl,h,h1,h2,h3⟩:=x
 exact⟨dx,vn,vu,vl,B6 ht h (λ_ z=>by cases z),h1.uM ht,h2.uM ht,h3.uM ht⟩
theorem Vs.uM{A:Ad}{a:Addr}{p:Pt}(h0:H0 t=some (.lst xs))(ht:H t=some (.lst xs))(x:Vs A H0 H a p):pP A (PK.uM t H) a p:=by
 obtain⟨dx,vf,pu,cu,vo,h1,h2,⟨as,h3,h4⟩,⟨vs,h5,h6⟩,h7,n1,n2⟩:=x
 have ne:∀{b:Addr},H0 b=none->b≠t:=λn e=>by rw[e,h0] at n;cases n
 exact⟨dx,vf,pu,cu,vo,B6 ht h1 (λ_ z=>by cases z),h2,⟨as,by rw[zy (ne n1)];exact h3,Paired.j0 h4 λ_ _ z=>z.uM ht⟩,⟨vs,by rw[zy (ne n2)];exact h5,Paired.j0 h6 λ_ _ z=>z.uM ht⟩,h7⟩
end
def Rn(A:Ad):Sp:=λvs Ht Q E=>∃(d t:Addr)(D:Dk)(W:Addr->Prop)(s x f:Str)(texts:List Str)(H:Hp),vs=[.ref d,.str s,.str x,.str f,.ref t]/\Ht=upd H t (.lst (gi texts))/\H t=none/\iY A H d D W/\Inv D/\Small D.made/\(D.made.flatMap (·.iF)).length<=1000/\sZ s/\sZ x/\sZ f/\texts.length<=1000/\
 s∈D.stores/\Good x/\Good f/\x∉D.names/\D.sV s f=[]/\(D.row s f).map (·.tx)≠texts/\∀H',iY A H' d (D.keep s (iU x f (D.row s f) texts)) W->FZ W H H'->H' t=none->Q .jb (upd H' t (.lst (gi texts)))
theorem sL{x f:Str}:(∀y∈[x,f],Good y)↔Good x/\Good f:=by
 constructor
 ·exact λh=>⟨h x (by simp),h f (by simp)⟩
 ·rintro⟨h1,h2⟩ y hy
  rcases V9.mp hy with z|z
  ·rw[z];exact h1
  ·rw[Sd.mp z];exact h2
theorem vE{D:Dk}(I:Inv D){s f x:Str}(hs:s∈D.stores)(texts:List Str):∀y∈iz (iU x f (D.row s f) texts),y∈D.names:=by
 intro y hy
 unfold iz at hy
 rcases YD.mp hy with hy|hy
 ·obtain⟨m,hm,rfl⟩:=List.mem_map.mp hy
  obtain⟨hm,hn⟩:=aah.mp hm
  have hn:m.1≠x:=aau hn
  have fin:m∈(D.row s f).map (·.nm)->m.1∈D.names:=λh=>by
   obtain⟨l,hl,rfl⟩:=List.mem_map.mp h
   obtain⟨p,h1,_,h3⟩:=I.sC hl
   have hp:=(Inv.lC.mp h1).1
   rw[mJ (I.AY p hp) (Vi h3)]
   exact Vi hp
  rcases YD.mp hm with hm|hm
  ·obtain⟨l,hl,rfl⟩:=List.mem_map.mp hm
   exact fin (Vi (aah.mp hl).1)
  ·obtain⟨l,hl,hm⟩:=aa4.mp hm
   have Ky:l.up=some m\/l.lo=some m:=by
    rcases YD.mp hm with hm|hm
    ·exact .inl (by simpa using hm)
    ·exact .inr (by simpa using hm)
   rcases yi texts 0 0 none l hl m Ky with(z|⟨t,z⟩)|z
   ·cases z
   ·obtain⟨q,_,_,l',Cm,rfl⟩:=BC z
    exact fin (Vi (Xj Cm))
   ·rw[uS] at z
    obtain⟨j,_,rfl⟩:=List.mem_map.mp z
    exact absurd rfl hn
 ·cases hy
theorem vF{x f:Str}{row:List Ln}{texts:List Str}:(iU x f row texts).iF.length<=texts.length/\(iU x f row texts).jx.length<=row.length:=by
 have rise:=nG (row.map (·.tx)) texts
 rw[QU] at rise
 have h:=Lq rise x
 refine⟨by show(ko x texts _).length<=_;omega,?_⟩
 show((row.filter _).map _).length<=_
 rw[QU]
 exact aaM _ _
theorem Hf(T:Txt mg)(O:Ok K mg A):iq P w K mg base (xU P w) 6 A.tK A.tL ["self","store","patch","file","texts"] (Rn A):=by
 have kZ:=@r_ P w K mg base A T O
 have wX:=@B4 P w K mg base A T O
 have j1:=@sd P w K mg base A T O
 have kK:=@rV P w K mg base A T O
 have wY:=@vC P w K mg base A T O
 have Eg:=(@LP P w K mg base A T O).FQ
 refine O.xK.f.yV nS λjv A0 outer s H vs Q E hr h=>?_
 obtain⟨d,t,D,W,st,y,f,texts,Hd,rfl,eH,SQ,Xd,I,sm,WX,Hz,hfy,S3,Kz,hs0,gy0,Ut,Zq,WY,he0,q6⟩:=h
 have s0:gg Hd H:=by rw[eH];exact(gg.refl Hd).new SQ
 have ht:H t=some (.lst (gi texts)):=by rw[eH];exact a_
 have X:=Xd.same s0
 clear eH
 have q1:st∉D.stores->E (.ref A.jm) none H:=λh=>absurd hs0 h
 have q2:st∈D.stores->¬(Good y/\Good f)->∀H',gg H H'->E (.ref A.j3) none H':=λ_ h=>absurd ⟨gy0,Ut⟩ h
 have q3:st∈D.stores->Good y->Good f->y∈D.names->∀H',gg H H'->E (.ref A.jX) none H':=λ_ _ _ h=>absurd h Zq
 have q4:st∈D.stores->Good y->Good f->y∉D.names->D.sV st f≠[]->∀H',gg H H'->E (.ref A.k9) none H':=λ_ _ _ _ h=>absurd WY h
 have q5:st∈D.stores->Good y->Good f->y∉D.names->D.sV st f=[]->(D.row st f).map (·.tx)=texts->∀H',gg H H'->E (.ref A.wA) none H':=λ_ _ _ _ _ h=>absurd h he0
 obtain⟨Y,x⟩:=id X
 have sz:sizeLine=16777216:=aaE
 have Fs:(D.row st f).length<=1000:=aao (I.BG st f) WX
 refine⟨_,(c_ (iu (Lj bx (pv 0) O.iB O.mi kZ hr (ak (pv 1) d_)))
   (c_ (iu (Lj bx (pv 0) O.iB O.rM wX hr (ak (pv 2) (ak (ji (ak (pv 3) d_)) d_))))
   (c_ (lg 5 nS (Lj bx (pv 0) O.iB O.my j1 hr (ak (pv 1) (ak (pv 3) d_))))
   (c_ (iJ (uD (uF (pv 5) O.j8 O.jH.t kK (hr.mono (by decide)) O.jH.b .nil o6) (λ_=>rfl)) (eV (nJ bx O.DC (by rfl) (pX (je jn (je (ub (pv 3)) (je jn ua)))))) ie)
   (c_ (iJ (ij (Io 3 (by exact QR hr)) (tw tG (f_ mx).names [6] rfl (iH (hU (pv 5) rfl)) rfl (by decide+kernel) (λ_ _ _ _=>(iK (i:=6) nS.nd rfl (Or.inl rfl))) (λ_ _ _ _=>oN) (λ_ _ _ _=>Bz (hU (pv 6) rfl))) (pv 4) (iy _)) (eV (nJ bx O.Oe (by rfl) (pX (je jn (je (ub (pv 3)) (je jn ua)))))) ie)
   (eV (iu (IP (pv 0) O.iB O.A3 Eg hr (ak (pv 1) (ak (n_ O.rL wY hr (ak (pv 2) (ak (pv 3) (ak (hU (pv 5) rfl) (ak (pv 4) d_))))) d_)))))))))),?_⟩
 refine YF ?_;intro _ _ _ _ _
 refine⟨_,rfl,d,Y.dx,_,rfl,x.hd,rZ,_,rfl,d,D,W,st,rfl,X,Hz,λhs=>?_,λhs=>q1 hs⟩
 refine⟨_,rfl,d,Y.dx,_,rfl,x.hd,B2,_,rfl,_,rfl,L2.kL,λl hl=>?_⟩
 have s1:gg H (upd H l (.lst [V.str f])):=(gg.refl H).new hl
 refine⟨d,l,D,W,y,[f],rfl,X.same s1,a_,by show 1<=1000;decide,λz hz=>?_,λh H' s'=>q2 hs (λg=>h (sL.mpr g)) H' (s1.trans s'),λh hn H' s'=>q3 hs (sL.mp h).1 (sL.mp h).2 hn H' (s1.trans s'),λh hn H2 s2=>?_⟩
 ·rcases V9.mp hz with z|z
  ·rw[z];exact hfy
  ·rw[Sd.mp z];exact S3
 obtain⟨gy,gf⟩:=sL.mp h
 have Kd:=s1.trans s2
 have X2:=X.same Kd
 refine⟨_,rfl,d,Y.dx,_,rfl,Kd _ _ x.hd,r9,_,rfl,_,rfl,d,D,W,st,f,rfl,X2,Hz,sm,I,λh=>absurd hs h,λ_ p H3 s3 Eo sg=>?_⟩
 obtain⟨px,ah,ln,g1,g2,⟨as,g3,g4⟩⟩:=id sg
 have s13:=Kd.trans s3
 have hlen:=aaj g4
 refine⟨_,rfl,p,px,_,rfl,g1,Jp ah ln,p,_,_,rfl,sg,Jt I st f,aao Fs (by decide),λr H4 vs s4 qS tU z8=>?_⟩
 have M9:=s13.trans s4
 have SE:=aaj z8
 by_cases hq:D.sV st f=[]
 case neg=>
  have WZ:vs≠[]:=λz=>hq (by
   have e:(kl (Ah (gk (D.kc st) f)) (D.row st f)).length=0:=by rw[SE,z];rfl
   exact aas.mp e)
  refine⟨true,.inl ⟨_,h_.of tU,by simpa using WZ⟩,oM ?_⟩
  exact⟨_,rfl,by decide+kernel,⟨_,rfl,_,rfl,S3.1,_,rfl,S3.1,⟨_,rfl,by decide+kernel,λ_=>q4 hs gy gf hn hq _ M9⟩⟩⟩
 have WZ:vs=[]:=by
  have e:(kl (Ah (gk (D.kc st) f)) (D.row st f)).length=0:=by rw[show kl (Ah (gk (D.kc st) f)) (D.row st f)=[] from hq];rfl
  rw[SE] at e
  exact aas.mp e
 refine⟨false,.inl ⟨_,h_.of tU,by rw[WZ];rfl⟩,j_ ?_⟩
 have ZF:=s4 _ _ g1
 have W0:=s4 _ _ g3
 let Jv:=λ(i:Nat) (ys:List V) (Z:St) (H5:Hp)=>∃(v6:Option V),Z=[rr d,rs st,rs y,rs f,rr t,rr p,v6]/\H5=H4/\ys=gi (((D.row st f).take i).map (·.tx))
 refine⟨_,rfl,p,A.ic,px,_,_,rfl,ZF,O.j8,O.iw,ml ah ln,ln,rfl,⟨_,h_.of W0⟩,ky (K:=K) (a:=ln) (xs:=as.map V.ref) (by rw[QU];omega) Jv
  ⟨none,rfl,rfl,rfl⟩ (by rintro _ _ _ _ _ ⟨_,_,e,e2⟩;rw[e,e2];exact⟨h_.of W0,by rw[QU,QU,aaA];omega⟩) ?_ ?_⟩
 ·rintro i v ys Z H5 hx ⟨v6,rfl,rfl,rfl⟩
  obtain⟨b,hb,rfl⟩:=jR hx
  obtain⟨l2,JV,dx,vn,vu,vl,k1,k2,k3,k4⟩:=il g4 hb
  refine⟨_,rfl,b,A.hX,dx,_,_,rfl,s4 _ _ k1,O.iO,O.jI,zm,_,rfl,rfl,?_⟩
  rw[take_snoc JV,aar,i3]
  rfl
 ·rintro ys Z H5 ⟨v6,rfl,rfl,rfl⟩ o Um
  rw[QU,hlen,aav]
  have s5:=M9.new (o:=.lst (gi ((D.row st f).map (·.tx)))) Um
  have W5:gg H5 (upd H5 o (.lst (gi ((D.row st f).map (·.tx))))):=(gg.refl H5).new Um
  refine⟨_,rfl,_,⟨o,t,rfl,rfl⟩,yl (h_.of a_) (h_.of (s5 _ _ ht)),_,rfl,?_⟩
  by_cases he:(D.row st f).map (·.tx)=texts
  ·rw[V7 he]
   refine oM ?_
   exact⟨_,rfl,by decide+kernel,⟨_,rfl,_,rfl,S3.1,_,rfl,S3.1,⟨_,rfl,by decide+kernel,λ_=>q5 hs gy gf hn hq he _ s5⟩⟩⟩
  ·rw[aai he]
   refine j_ ?_
   have X5:=X.same s5
   refine⟨_,rfl,d,Y.dx,_,rfl,s5 _ _ x.hd,LJ,_,rfl,_,rfl,_,rfl,_,rfl,p,A.ic,px,_,_,rfl,W5 _ _ ZF,O.j8,O.iw,ml ah ln,_,rfl,y,f,ln,t,D.row st f,texts,rfl,⟨as,W5 _ _ W0,Paired.j0 g4 λ_ _ z=>(z.same s4).same W5⟩,s5 _ _ ht,Fs,Kz,λpa H6 s6 hpa0 W6=>?_⟩
   have ZG:=s5.trans s6
   obtain⟨cl1,cl2⟩:=vF (x:=y) (f:=f) (row:=D.row st f) (texts:=texts)
   have h6:=ZG _ _ ht
   have sH:gg Hd (uM t H6):=λb o e=>by
    rw[zy (gc e SQ)]
    exact ZG _ _ (s0 _ _ e)
   refine⟨upd (λ_=>none) t (.lst (gi texts)),uM t H6,Apart.nil.put Jw _,OB h6,d,pa,D,W,st,_,rfl,Xd.same sH,I,sm.many,hs,W6.uM (s5 _ _ ht) h6,hn,aao cl1 (aao Kz (by decide)),aao cl2 (aao Fs (by decide)),vE I hs texts,λH7 X7 s7 ap=>?_⟩
   rw[<-vZ,EN]
   exact q6 H7 X7 (λb o e n=>s7 b o (sH _ _ e) n) (ap.jb t _ a_)
def cellAt(ns:List Int)(k:Int):Int:=(ns[k.toNat]?).getD 0
def B7(i:Int):Str:=⟨#[(lR.cps[(i%36).toNat]?).getD 0]⟩
noncomputable def ku(cell k:Int):Nat->Str
 | 0=>Str.ofString ""
 | j+1=>ku cell k j++(if(j:Int)=cell/12%(1+cell%12) then B7 (k+cell/144) else B7 (cell/144+5*(j:Int)+cell/5184%2*k*7))
noncomputable def nameOf(cell k:Int):Str:=ku cell k (1+cell%12).toNat
theorem B8:lR.length=36:=by decide+kernel
theorem Jx:lR.cps.size=36:=B8
theorem B9(a b:Str):(a++b).cps.toList=a.cps.toList++b.cps.toList:=Array.toList_append
theorem Ga(a b:Str):(a++b).length=a.length+b.length:=Array.size_append
theorem ym(i:Int):∃c,GG lR.cps.toList (i%36)=some c/\B7 i=⟨#[c]⟩/\c∈lR.cps.toList:=by
 have b:=mod_lt i 36 (by decide)
 obtain⟨c,e,ev⟩:=uL (xs:=lR.cps.toList) b.1 (by rw[aaB,Jx];exact b.2)
 rw[aaL] at ev
 exact⟨c,e,by unfold B7;rw[ev];rfl,Xj (i:=(i%36).toNat) (by rw[aaL];exact ev)⟩
theorem yn(cell k:Int):∀j,(ku cell k j).length=j/\∀c∈(ku cell k j).cps.toList,c∈lR.cps.toList
 | 0=>⟨by unfold ku;decide+kernel,λc hc=>by
   have:(ku cell k 0).cps.toList=[]:=by unfold ku;decide+kernel
   rw[this] at hc;cases hc⟩
 | j+1=>by
  have ⟨h1,h2⟩:=yn cell k j
  unfold ku
  obtain⟨c1,_,e1,m1⟩:=ym (k+cell/144)
  obtain⟨c2,_,e2,m2⟩:=ym (cell/144+5*(j:Int)+cell/5184%2*k*7)
  split
  ·rw[e1,Ga,B9]
   refine⟨by rw[h1];rfl,λc hc=>?_⟩
   rcases YD.mp hc with hc|hc
   ·exact h2 c hc
   ·rw[Sd.mp hc];exact m1
  ·rw[e2,Ga,B9]
   refine⟨by rw[h1];rfl,λc hc=>?_⟩
   rcases YD.mp hc with hc|hc
   ·exact h2 c hc
   ·rw[Sd.mp hc];exact m2
theorem sM(cell k:Int):Good (nameOf cell k):=by
 obtain⟨h1,h2⟩:=yn cell k (1+cell%12).toNat
 have b:=mod_lt cell 12 (by decide)
 exact⟨by unfold nameOf;rw[h1];omega,by unfold nameOf;rw[h1];omega,h2⟩
theorem LQ{x:Str}(h:x.length<=1000)(hc:∀c∈x.cps.toList,c<1114112):sZ x:=by
 refine⟨?_,h⟩
 have z:=PySem.StrLaws.reprText_len x λc Bf=>Nat.lt_trans (hc c Bf) (by decide)
 omega
theorem Jy:∀c∈lR.cps.toList,c<1114112:=by decide+kernel
theorem Good.B_{x:Str}(g:Good x):sZ x:=LQ (by have:=g.2.1;omega) λc hc=>Jy c (g.2.2 c hc)
def Gb(i:Int):Nat:=(lR.cps[(i%36).toNat]?).getD 0
theorem Hg{i j:Int}(h:Gb i=Gb j):i%36=j%36:=by
 have key:∀a<36,∀b<36,(lR.cps[a]?).getD 0=(lR.cps[b]?).getD 0->a=b:=by decide+kernel
 have b1:=mod_lt i 36 (by decide)
 have b2:=mod_lt j 36 (by decide)
 have:=key (i%36).toNat (by omega) (j%36).toNat (by omega) h
 omega
theorem Ca(cell k:Int):∀n j,j<n->(ku cell k n).cps.toList[j]?=some (if(j:Int)=cell/12%(1+cell%12) then Gb (k+cell/144) else Gb (cell/144+5*(j:Int)+cell/5184%2*k*7))
 | 0,j,h=>by omega
 | n+1,j,h=>by
  have hl:(ku cell k n).cps.toList.length=n:=by rw[aaB];exact(yn cell k n).1
  rw[ku,B9]
  by_cases e:j=n
  ·subst e
   rw[abb (by omega),hl,Nat.sub_self]
   split<;>rfl
  ·rw[abS (by omega)]
   exact Ca cell k n j (by omega)
theorem DV{c i j:Int}(h0:0<=i)(h1:i<36)(h2:0<=j)(h3:j<36)(h:nameOf c i=nameOf c j):i=j:=by
 have b:=mod_lt c 12 (by decide)
 have b2:=mod_lt (c/12) (1+c%12) (by omega)
 have e1:=Ca c i (1+c%12).toNat (c/12%(1+c%12)).toNat (by omega)
 have e2:=Ca c j (1+c%12).toNat (c/12%(1+c%12)).toNat (by omega)
 have h:ku c i (1+c%12).toNat=ku c j (1+c%12).toNat:=h
 rw[h] at e1
 rw[e1] at e2
 rw[aag (by omega),aag (by omega)] at e2
 have:=Hg (aal e2)
 omega
def OC(K:Qqy):Sp:=λvs H Q _=>∃(a:Addr)(ns:List Int)(k:Int),vs=[.ref a,.int k]/\h_ K H a (ns.map V.int)/\0<=k/\Q (.int (cellAt ns k)) H
theorem Gd(T:Txt mg)(O:Ok K mg A):iq P w K mg base lN 1 A.rC A.rD ["script","k"] (OC K):=by
 refine O.i5.f.pR x5 λjv A outer s H vs Q E hr h=>?_
 obtain⟨a,ns,k,rfl,ha,h0,q⟩:=h
 refine⟨_,(c_ (iJ (ij AE (pv 1) (hG gq (by rfl) T.jW aaz (ak (pv 0) d_)) (iy _)) (eV (ia (vY (pv 0) (pv 1)))) ie)
   (eV (ia e_))),?_⟩
 refine Kt ?_;intro _
 refine⟨_,rfl,_,rfl,a,_,rfl,.inl ha,_,_,rfl,rfl,_,rfl,?_⟩
 refine lb (λhc=>?_) (λhc=>?_)
 ·have hc:k<((ns.map V.int).length:Int):=aau hc
  obtain⟨v,e,ev⟩:=uL h0 hc
  rw[YI] at ev
  cases en:ns[k.toNat]? with
  | none=>rw[en] at ev;cases ev
  | some z=>
   rw[en] at ev
   cases ev
   unfold cellAt at q
   rw[en] at q
   exact⟨_,rfl,_,rfl,a,_,_,_,rfl,rfl,ha,e,q⟩
 ·have hc:¬k<((ns.map V.int).length:Int):=by simpa using hc
  unfold cellAt at q
  rw[QU] at hc
  rw[aci (by omega)] at q
  exact q
def OD:Sp:=λvs H Q _=>∃(c k:Int),vs=[.int c,.int k]/\Q (.str (nameOf c k)) H
theorem LR(T:Txt mg)(O:Ok K mg A):iq P w K mg base lN 1 A.xy A.xA ["cell","k"] OD:=by
 refine O.sD.f.pR jj λjv A outer s H vs Q E hr h=>?_
 obtain⟨c,k,rfl,q⟩:=h
 refine⟨_,(c_ (lg 2 jj jn)
   (c_ (lg 3 jj (gn ik e_ (gn jo (pv 0) e_)))
   (c_ (lg 4 jj (gn j4 (pv 0) e_))
   (c_ (lg 5 jj (gn vN (gn vN (gn jo (gn j4 (pv 0) e_) e_) (pv 1)) e_))
   (c_ (lg 6 jj jn)
   (c_ (iI aap rfl (jS rfl T.jQ (ak (pv 3) d_)) (uc 7 jj) (eV (iJ (ij lh (pv 7) (gn jo (gn j4 (pv 0) e_) (pv 3)) (iy _)) (eV (lg 6 jj (gn yB (pv 6) (jA EA (pv 2) (gn jo (gn ik (pv 1) (pv 4)) e_) (λ_ _=>rfl))))) (eV (lg 6 jj (gn yB (pv 6) (jA EA (pv 2) (gn jo (gn ik (gn ik (pv 4) (gn vN e_ (pv 7))) (pv 5)) e_) (λ_ _=>rfl))))))))
   (eV (ia (pv 6))))))))),?_⟩
 refine sl7 ?_;intro _ _ _ _ _ _
 have b:=mod_lt c 12 (by decide)
 have b2:=mod_lt (c/5184) 2 (by decide)
 refine⟨_,rfl,_,_,rfl,rfl,(by show(0:Int)<12;decide),_,_,rfl,rfl,?_⟩
 refine⟨_,rfl,_,_,rfl,rfl,⟨by decide,by decide⟩,?_⟩
 refine⟨_,rfl,_,_,rfl,rfl,⟨by decide,by decide⟩,_,_,rfl,rfl,(by show(0:Int)<2;decide),_,rfl,_,_,rfl,rfl,.inl ⟨by omega,by omega⟩,_,_,rfl,rfl,.inr ⟨by decide,by decide⟩,?_⟩
 refine⟨_,rfl,_,rfl,by omega,by omega,?_⟩
 let Jv:=λ(j:Nat) (Z:St) (H2:Hp)=>∃v,Z=[ri c,ri k,rs lR,ri (1+c%12),ri (c/144),ri (c/5184%2*k*7),rs (ku c k j),v]/\H2=H
 refine j2 Jv ⟨none,rfl,rfl⟩ ?_ ?_
 ·rintro j Z H2 hj ⟨v,rfl,rfl⟩
  have hlen:=(yn c k j).1
  have hz:(ku c k j).length+1<=sizeLine:=aao (m:=13) (by omega) (by decide)
  refine⟨_,rfl,_,rfl,_,_,rfl,rfl,⟨by decide,by decide⟩,_,rfl,_,_,rfl,rfl,(by show(0:Int)<1+c%12;omega),rfl,_,rfl,?_⟩
  refine lb (λhc=>?_) (λhc=>?_)
  ·have hc:(0:Int)+(j:Int)=c/12%(1+c%12):=V.int.inj (aau hc)
   obtain⟨cp,e,es,_⟩:=ym (k+c/144)
   refine⟨_,rfl,_,rfl,_,rfl,_,rfl,_,_,rfl,rfl,_,_,rfl,rfl,(by show(0:Int)<36;decide),_,_,cp,rfl,rfl,by rw[B8];decide,e,_,_,rfl,rfl,hz,some (.int (0+(j:Int))),?_,rfl⟩
   rw[ku,aag (by omega),es]
   rfl
  ·have hc:¬(0:Int)+(j:Int)=c/12%(1+c%12):=λz=>hc (V7 (aaQ V.int z))
   obtain⟨cp,e,es,_⟩:=ym (c/144+5*(j:Int)+c/5184%2*k*7)
   refine⟨_,rfl,_,rfl,_,rfl,_,rfl,_,_,rfl,rfl,.inl ⟨by decide,by decide⟩,_,_,rfl,rfl,_,rfl,_,_,rfl,rfl,_,_,rfl,rfl,(by show(0:Int)<36;decide),_,_,cp,rfl,rfl,by rw[B8];decide,by rw[Int.zero_add];exact e,_,_,rfl,rfl,hz,some (.int (0+(j:Int))),?_,rfl⟩
   rw[ku,aac (by omega),es]
   rfl
 ·rintro Z H2 ⟨v,rfl,rfl⟩
  refine⟨_,rfl,?_⟩
  have:(1+c%12-0).toNat=(1+c%12).toNat:=by rw[Int.sub_zero]
  exact q
def wH:Str:=Str.ofString " !#$&()*+,-./0123456789:;<=>?@ABCDEFGHIJKLMNOPQRSTUVWXYZ[]^_abcdefghijklmnopqrstuvwxyz{|}~"
theorem sN:wH.length=90:=by decide+kernel
def OE:Sp:=λvs H Q _=>∃(c:Int),vs=[.int c]/\∀x H',gg H H'->Q (.str x) H'
theorem DW:∀(xs:List Str),(∀x∈xs,x.length=1)->(xs.map (·.length)).sum=xs.length
 | [],_=>rfl
 | x::r,h=>by
  rw[aat,List.sum_cons,h x aae,DW r λy hy=>h y (YE _ hy),W7]
  omega
theorem Ge(T:Txt mg)(O:Ok K mg A):iq P w K mg base lN 1 A.xB A.xC ["cell"] OE:=by
 refine O.sE.f.pR lE λjv A outer s H vs Q E hr h=>?_
 obtain⟨c,rfl,q⟩:=h
 refine⟨_,(c_ (lU (i:=1) lE.nd rfl (Or.inr rfl) jn)
   (c_ (iJ (ij lh (gn jo (pv 0) e_) e_ (iy _)) (eV (ia (vY (ji (ak jn (ak jn (ak jn (ak jn d_))))) (gn jo (gn j4 (pv 0) e_) e_)))) ie)
   (c_ (lg 2 lE (gn jo (gn j4 (pv 0) e_) e_))
   (c_ (nK (iJ (ij lh (gn jo (gn j4 (pv 0) e_) e_) e_ (iy _)) (eV (lg 2 lE e_)) ie))
   (eV (ia (k7 PySem.F.plainAttrs_str PySem.F.slot_str_join PySem.F.type_str_join K4 jn (ak (tw xn (f_ oz).names [3] rfl (jS rfl T.jQ (ak (pv 2) d_)) rfl (by decide+kernel) (λ_ _ _ _=>(iK (i:=3) lE.nd rfl (Or.inl rfl))) (λ_ _ _ _=>oN) (λ_ _ _ _=>Bz (jA EA (pv 1) (gn jo (gn ik (gn j4 (pv 0) e_) (gn vN e_ (pv 3))) (hG uH (by rfl) T.jW aaz (ak (pv 1) d_))) (λ_ _=>rfl)))) d_)))))))),?_⟩
 refine ME ?_;intro _ _ _ _
 refine⟨_,rfl,_,_,rfl,rfl,(by show(0:Int)<3;decide),rfl,_,rfl,?_⟩
 refine lb (λ_=>?_) (λ_=>?_)
 ·refine⟨kL,λl hl=>?_⟩
  refine⟨_,rfl,_,_,rfl,rfl,⟨by decide,by decide⟩,_,_,rfl,rfl,(by show(0:Int)<4;decide),?_⟩
  have b:=mod_lt (c/3) 4 (by decide)
  obtain⟨v,e,ev⟩:=uL (xs:=[V.str (Str.ofString "a"),V.str (Str.ofString "b"),V.str (Str.ofString ""),V.str (Str.ofString " ")]) b.1 (by simpa using b.2)
  refine⟨l,_,_,v,rfl,rfl,h_.of a_,e,?_⟩
  have hv:∃x,v=V.str x:=by
   have hm:=Xj ev
   simp at hm
   rcases hm with rfl|rfl|rfl|rfl<;>exact⟨_,rfl⟩
  obtain⟨x,rfl⟩:=hv
  exact q x _ ((gg.refl H).new hl)
 ·refine⟨_,rfl,_,_,rfl,rfl,⟨by decide,by decide⟩,_,_,rfl,rfl,(by show(0:Int)<5;decide),?_⟩
  have b:=mod_lt (c/3) 5 (by decide)
  refine⟨λZ H2=>∃(z:Int)(v:Option V),Z=[ri c,rs wH,ri z,v]/\H2=H/\0<=z/\z<=80,?_,?_⟩
  ·refine⟨_,rfl,_,_,rfl,rfl,⟨by decide,by decide⟩,_,_,rfl,rfl,(by show(0:Int)<9;decide),rfl,_,rfl,?_⟩
   refine lb (λ_=>?_) (λ_=>?_)
   ·exact⟨80,_,rfl,rfl,by decide,by decide⟩
   ·exact⟨_,_,rfl,rfl,b.1,by omega⟩
  ·rintro Z H2 ⟨z,v,rfl,rfl,z0,z1⟩
   refine⟨rfl,_,rfl,_,rfl,by omega,by omega,?_⟩
   let Jv:=λ(m:Nat) (ys:List V) (Z:St) (H3:Hp)=>∃(v:Option V)(xs:List Str),Z=[ri c,rs wH,ri z,v]/\H3=H2/\ys=gi xs/\xs.length=m/\∀x∈xs,x.length=1
   refine qY (by have:sizeLine=2 ^ 24:=rfl;omega) Jv
    ⟨none,[],rfl,rfl,rfl,rfl,λx hx=>nomatch hx⟩ (by rintro _ _ _ _ ⟨_,xs,_,_,e,e2,_⟩;rw[e,QU];omega) ?_ ?_
   ·rintro m ys Z H3 hm ⟨v,xs,rfl,rfl,rfl,hx,h1⟩
    refine⟨_,rfl,_,rfl,_,_,rfl,rfl,⟨by decide,by decide⟩,_,rfl,_,_,rfl,rfl,.inl ⟨by decide,by decide⟩,_,_,rfl,rfl,_,rfl,_,rfl,by rw[sN];decide,_,_,rfl,rfl,(by show(0:Int)<(wH.length:Int);rw[sN];decide),?_⟩
    have b:=mod_lt (c/45+7*(0+(m:Int))) (wH.length:Int) (by rw[sN];decide)
    obtain⟨cp,e,_⟩:=uL (xs:=wH.cps.toList) b.1 (by rw[aaB];exact b.2)
    refine⟨_,_,cp,rfl,rfl,by rw[sN];decide,e,?_⟩
    refine⟨_,xs++[⟨#[cp]⟩],rfl,rfl,i3 _ _,by rw[Vh,hx];rfl,λx S4=>?_⟩
    rcases YD.mp S4 with S4|S4
    ·exact h1 x S4
    ·rw[Sd.mp S4];rfl
   ·rintro ys Z H3 ⟨v,xs,rfl,rfl,rfl,hx,h1⟩ p hp
    refine⟨_,p,xs,rfl,rfl,h_.of a_,?_,?_⟩
    ·rw[DW xs h1]
     have:(Str.ofString "").length=0:=by decide+kernel
     rw[this]
     omega
    ·exact q _ _ ((gg.refl H3).new hp)
theorem se(l:List Str)(k:Nat):uG (gi l) none (some (k:Int))=gi (l.take k):=by
 unfold uG
 rw[HT.C1,HT.FK,Nat.sub_zero,List.drop_zero]
 unfold gi
 rw[QU,<-List.map_take]
 congr 1
 by_cases h:k<=l.length
 ·rw[Nat.min_eq_left h]
 ·rw[Nat.min_eq_right (by omega),aca (Vb _),aca (by omega)]
theorem DX(l:List Str)(k:Nat):uG (gi l) (some (k:Int)) none=gi (l.drop k):=by
 unfold uG
 rw[HT.C1,HT.FK,aca (by rw[List.length_drop];exact Vb _)]
 unfold gi
 rw[QU,<-List.map_drop]
 congr 1
 by_cases h:k<=l.length
 ·rw[Nat.min_eq_left h]
 ·rw[Nat.min_eq_right (by omega),List.drop_of_length_le (Vb _),List.drop_of_length_le (by omega)]
theorem wI(l:List Str){z:Int}{k:Nat}(h:z=(k:Int)):uG (gi l) (some z) none=gi (l.drop k):=by rw[h,DX]
structure Hh(ts KD:List Str):Prop where
 ne:ts≠KD
 len:KD.length<=ts.length+3
 near:KD.length<=K01.lcs ts KD+3
theorem zz{x y s:List Str}(h1:s.Sublist x)(h2:s.Sublist y):s.length<=K01.lcs x y:=(K01.jN x y).1 s h1 h2
theorem Cb{ts KD:List Str}(h:ts.length≠KD.length):ts≠KD:=λz=>h (aaQ List.length z)
theorem Hi(ts:List Str)(k:Nat)(x:Str):Hh ts (ts.take k++[x]++ts.drop k):=by
 have hl:(ts.take k++[x]++ts.drop k).length=ts.length+1:=by simp;omega
 have hs:ts.Sublist (ts.take k++[x]++ts.drop k):=by
  conv=>lhs;rw[<-abR k ts]
  rw[aaK]
  exact(aaC _).append (aa1 _ _)
 have:=zz (aaC ts) hs
 exact⟨Cb (by omega),by omega,by omega⟩
theorem Jz(ts:List Str)(k:Nat)(h:k<ts.length):Hh ts (ts.take k++ts.drop (k+1)):=by
 have hl:(ts.take k++ts.drop (k+1)).length=ts.length-1:=by simp;omega
 have hs:(ts.take k++ts.drop (k+1)).Sublist ts:=by
  conv=>rhs;rw[<-abR k ts]
  refine(aaC _).append ?_
  rw[aaU h]
  exact abq _ _
 have:=zz hs (aaC _)
 exact⟨Cb (by omega),by omega,by omega⟩
theorem E7(ts:List Str)(k:Nat)(x:Str)(h:k<ts.length)(hx:ts[k]≠x):Hh ts (ts.take k++[x]++ts.drop (k+1)):=by
 have hl:(ts.take k++[x]++ts.drop (k+1)).length=ts.length:=by simp;omega
 have hs:(ts.take k++ts.drop (k+1)).Sublist ts:=by
  conv=>rhs;rw[<-abR k ts]
  refine(aaC _).append ?_
  rw[aaU h]
  exact abq _ _
 have HE:(ts.take k++ts.drop (k+1)).Sublist (ts.take k++[x]++ts.drop (k+1)):=by
  rw[aaK]
  exact(aaC _).append (aa1 _ _)
 have:=zz hs HE
 have JV:(ts.take k++ts.drop (k+1)).length=ts.length-1:=by simp;omega
 refine⟨λz=>hx ?_,by omega,by omega⟩
 have e:ts[k]?=(ts.take k++[x]++ts.drop (k+1))[k]?:=by rw[<-z]
 rw[aaK,abb (by rw[aaA];omega),aaA,show k-min k ts.length=0 by omega,R7 h] at e
 exact aal e
theorem E8(ts:List Str)(k:Nat)(x y z:Str):Hh ts ([x]++(ts.take k++[y]++ts.drop k)++[z]):=by
 have hl:([x]++(ts.take k++[y]++ts.drop k)++[z]).length=ts.length+3:=by simp;omega
 have hs:ts.Sublist ([x]++(ts.take k++[y]++ts.drop k)++[z]):=by
  refine List.Sublist.trans ?_ (List.sublist_append_left _ _)
  refine List.Sublist.trans ?_ (aa1 _ _)
  conv=>lhs;rw[<-abR k ts]
  rw[aaK]
  exact(aaC _).append (aa1 _ _)
 have:=zz (aaC ts) hs
 exact⟨Cb (by omega),by omega,by omega⟩
theorem Hj(ts:List Str)(k:Nat)(x y z:Str)(h:k+1<ts.length):Hh ts (ts.take k++[x,y,z]++ts.drop (k+2)):=by
 have hl:(ts.take k++[x,y,z]++ts.drop (k+2)).length=ts.length+1:=by simp;omega
 have hs:(ts.take k++ts.drop (k+2)).Sublist ts:=by
  conv=>rhs;rw[<-abR k ts]
  refine(aaC _).append ?_
  exact K01.uO (by omega)
 have HE:(ts.take k++ts.drop (k+2)).Sublist (ts.take k++[x,y,z]++ts.drop (k+2)):=by
  rw[aaK]
  exact(aaC _).append (aa1 _ _)
 have:=zz hs HE
 have JV:(ts.take k++ts.drop (k+2)).length=ts.length-2:=by simp;omega
 exact⟨Cb (by omega),by omega,by omega⟩
def OF:Sp:=λvs H Q _=>∃(t:Addr)(ts:List Str)(c:Int),vs=[.ref t,.int c]/\H t=some (.lst (gi ts))/\ts.length<=900/\∀p H' KD,gg H H'->H p=none->H' p=some (.lst (gi KD))->Hh ts KD->Q (.ref p) H'
theorem LS(T:Txt mg)(O:Ok K mg A):iq P w K mg base lN 2 A.xD A.xE ["texts","cell"] OF:=by
 have oJ:=@Ge P w K mg base A T O
 refine O.A4.f.pR jY λjv A outer s H vs Q E hr h=>?_
 obtain⟨t,ts,c,rfl,ht,hl,q⟩:=h
 have sz:sizeLine=16777216:=aaE
 have et:((gi ts).length:Int)=(ts.length:Int):=by simp
 refine⟨_,(c_ (lg 2 jY (gn jo (gn j4 (pv 1) e_) (gn ik (hG gq (by rfl) T.jW aaz (ak (pv 0) d_)) e_)))
   (c_ (lg 3 jY (n_ O.sE oJ hr (ak (gn j4 (pv 1) e_) d_)))
   (c_ (lg 4 jY (gn oK (gn oK (lq nA (pv 0) nv (nz (pv 2))) (ji (ak (pv 3) d_))) (lq nA (pv 0) (nz (pv 2)) nv)))
   (c_ (lg 5 jY (gn jo (pv 1) e_))
   (c_ (nK (iJ ((pw_and (ij lh (pv 5) e_ (iy _)) (pw_and1 (ij HQ (hG gq (by rfl) T.jW aaz (ak (pv 0) d_)) e_ (iy _)))).pt) (c_ (lg 6 jY (gn jo (pv 2) (hG gq (by rfl) T.jW aaz (ak (pv 0) d_))))
   (eV (ia (gn oK (lq nA (pv 0) nv (nz (pv 6))) (lq nA (pv 0) (nz (gn ik (pv 6) e_)) nv))))) ie))
   (c_ (nK (iJ ((pw_and (ij lh (pv 5) e_ (iy _)) (pw_and (ij AE (pv 2) (hG gq (by rfl) T.jW aaz (ak (pv 0) d_)) (iy _)) (pw_and1 (ij FE (vY (pv 0) (pv 2)) (pv 3) (iy _))))).pt) (eV (ia (gn oK (gn oK (lq nA (pv 0) nv (nz (pv 2))) (ji (ak (pv 3) d_))) (lq nA (pv 0) (nz (gn ik (pv 2) e_)) nv)))) ie))
   (c_ (nK (iJ (ij lh (pv 5) e_ (iy _)) (eV (ia (gn oK (gn oK (ji (ak (pv 3) d_)) (pv 4)) (ji (ak (n_ O.sE oJ hr (ak (gn j4 (pv 1) e_) d_)) d_))))) ie))
   (c_ (nK (iJ ((pw_and (ij lh (pv 5) e_ (iy _)) (pw_and1 (ij AE (gn ik (pv 2) e_) (hG gq (by rfl) T.jW aaz (ak (pv 0) d_)) (iy _)))).pt) (c_ (lg 7 jY (ji (ak (vY (pv 0) (gn ik (pv 2) e_)) (ak (pv 3) (ak (vY (pv 0) (pv 2)) d_)))))
   (eV (ia (gn oK (gn oK (lq nA (pv 0) nv (nz (pv 2))) (pv 7)) (lq nA (pv 0) (nz (gn ik (pv 2) e_)) nv))))) ie))
   (eV (ia (pv 4))))))))))),?_⟩
 refine sl9 ?_;intro _ _ _ _ _ _ _ _
 refine⟨_,rfl,_,_,rfl,rfl,⟨by decide,by decide⟩,_,rfl,t,_,rfl,.inl (h_.of ht),_,_,rfl,rfl,_,_,rfl,rfl,(by rw[et];omega),?_⟩
 rw[et]
 have b:=mod_lt (c/5) ((ts.length:Int)+1) (by omega)
 obtain⟨k,hk⟩:∃k:Nat,c/5%((ts.length:Int)+1)=(k:Int):=⟨_,(Int.toNat_of_nonneg b.1).symm⟩
 dsimp only
 rw[hk]
 have Mf:k<=ts.length:=by omega
 refine⟨_,rfl,_,_,rfl,rfl,⟨by decide,by decide⟩,c/30,rfl,λx H1 s1=>?_⟩
 have Gm:=s1 _ _ ht
 refine⟨_,rfl,_,rfl,_,rfl,t,_,rfl,h_.of Gm,λa ha=>?_⟩
 rw[se]
 have s2:=s1.new (o:=.lst (gi (ts.take k))) ha
 have ZH:(upd H1 a (.lst (gi (ts.take k)))) a=some (.lst (gi (ts.take k))):=a_
 generalize upd H1 a (.lst (gi (ts.take k)))=H2 at s2 ZH
 refine⟨_,rfl,L2.kL,λb0 M8=>?_⟩
 have s3:=s2.new (o:=.lst [V.str x]) M8
 refine⟨a,b0,_,_,rfl,rfl,ip M8 ZH,a_,by simp;omega,λd hd=>?_⟩
 have s4:=s3.new (o:=.lst (gi (ts.take k)++[V.str x])) hd
 have ZI:(upd (upd H2 b0 (.lst [V.str x])) d (.lst (gi (ts.take k)++[V.str x]))) d=some (.lst (gi (ts.take k++[x]))):=by rw[a_,i3]
 generalize upd (upd H2 b0 (.lst [V.str x])) d (.lst (gi (ts.take k)++[V.str x]))=H4 at s4 ZI
 refine⟨_,rfl,_,rfl,_,rfl,t,_,rfl,h_.of (s4 _ _ ht),λe he=>?_⟩
 rw[DX]
 have s5:=s4.new (o:=.lst (gi (ts.drop k))) he
 refine⟨d,e,_,_,rfl,rfl,ip he ZI,a_,by simp;omega,λm hm=>?_⟩
 have s6:=s5.new (o:=.lst (gi (ts.take k++[x])++gi (ts.drop k))) hm
 have hmH:=s5.free hm
 have W8:(upd (upd H4 e (.lst (gi (ts.drop k)))) m (.lst (gi (ts.take k++[x])++gi (ts.drop k)))) m=some (.lst (gi (ts.take k++[x]++ts.drop k))):=by rw[a_,o_]
 generalize upd (upd H4 e (.lst (gi (ts.drop k)))) m (.lst (gi (ts.take k++[x])++gi (ts.drop k)))=H6 at s6 W8
 have HH:=s6 _ _ ht
 refine⟨_,rfl,_,_,rfl,rfl,(by show(0:Int)<5;decide),?_⟩
 refine⟨λZ H7=>Z=[rr t,ri c,ri k,rs x,rr m,ri (c%5),none,none]/\H7=H6,?_,?_⟩
 ·refine⟨_,rfl,rfl,_,rfl,?_⟩
  refine lb (λ_=>?_) (λ_=>j_ ⟨rfl,rfl⟩)
  refine⟨_,rfl,t,_,rfl,.inl (h_.of HH),_,_,rfl,rfl,_,rfl,?_⟩
  refine lb (λh1=>?_) (λ_=>⟨rfl,rfl⟩)
  have h1:0<ts.length:=by have:=aau h1;rw[et] at this;omega
  refine⟨_,rfl,_,rfl,t,_,rfl,.inl (h_.of HH),_,_,rfl,rfl,(by rw[et];omega),?_⟩
  have b2:=mod_lt (k:Int) (ts.length:Int) (by omega)
  obtain⟨o,ho⟩:∃o:Nat,(k:Int)%(ts.length:Int)=(o:Int):=⟨_,(Int.toNat_of_nonneg b2.1).symm⟩
  rw[et]
  dsimp only
  rw[ho]
  refine⟨_,rfl,_,rfl,_,rfl,t,_,rfl,h_.of HH,λa ha=>?_⟩
  have s7:=s6.new (o:=.lst (uG (gi ts) none (some (o:Int)))) ha
  refine⟨_,rfl,_,rfl,_,_,rfl,rfl,_,rfl,t,_,rfl,h_.of (s7 _ _ ht),λe he=>?_⟩
  have s8:=s7.new (o:=.lst (uG (gi ts) (some ((o:Int)+1)) none)) he
  refine⟨a,e,gi (ts.take o),gi (ts.drop (o+1)),rfl,rfl,ip he (by rw[a_,se]),by rw[a_,wI ts (k:=o+1) (by omega)],by simp;omega,λp hp=>?_⟩
  refine q p _ _ (s8.new hp) (s8.free hp) ?_ (Jz ts o (by omega))
  rw[a_,o_]
 rintro Z H7 ⟨rfl,rfl⟩
 refine⟨λZ H8=>Z=[rr t,ri c,ri k,rs x,rr m,ri (c%5),none,none]/\H8=H7,?_,?_⟩
 ·refine⟨_,rfl,rfl,_,rfl,?_⟩
  refine lb (λ_=>?_) (λ_=>j_ ⟨rfl,rfl⟩)
  refine⟨_,rfl,_,rfl,t,_,rfl,.inl (h_.of HH),_,_,rfl,rfl,_,rfl,?_⟩
  refine lb (λh1=>?_) (λ_=>j_ ⟨rfl,rfl⟩)
  have h1:k<ts.length:=by have:=aau h1;rw[et] at this;omega
  have hx:ts[k]?=some ts[k]:=R7 h1
  refine⟨_,rfl,_,rfl,t,_,_,_,rfl,rfl,h_.of HH,ig rfl (ju hx),_,rfl,rfl,_,rfl,?_⟩
  refine lb (λh2=>?_) (λ_=>⟨rfl,rfl⟩)
  have h2:ts[k]≠x:=λz=>by rw[z] at h2;simp at h2
  refine⟨_,rfl,_,rfl,_,rfl,t,_,rfl,h_.of HH,λa ha=>?_⟩
  have s7:=s6.new (o:=.lst (uG (gi ts) none (some (k:Int)))) ha
  rw[se] at s7 ⊢
  refine⟨_,rfl,L2.kL,λb0 M8=>?_⟩
  have s8:=s7.new (o:=.lst [V.str x]) M8
  refine⟨a,b0,_,_,rfl,rfl,ip M8 a_,a_,by simp;omega,λd hd=>?_⟩
  have s9:=s8.new (o:=.lst (gi (ts.take k)++[V.str x])) hd
  refine⟨_,rfl,_,rfl,_,_,rfl,rfl,_,rfl,t,_,rfl,h_.of (s9 _ _ ht),λe he=>?_⟩
  have Bj:=s9.new (o:=.lst (uG (gi ts) (some ((k:Int)+1)) none)) he
  refine⟨d,e,_,gi (ts.drop (k+1)),rfl,rfl,ip he a_,by rw[a_,wI ts (k:=k+1) (by omega)],by simp;omega,λp hp=>?_⟩
  refine q p _ _ (Bj.new hp) (Bj.free hp) ?_ (E7 ts k x h1 h2)
  rw[a_,i3,o_]
 rintro Z H8 ⟨rfl,rfl⟩
 refine⟨λZ H9=>Z=[rr t,ri c,ri k,rs x,rr m,ri (c%5),none,none]/\H9=H8,?_,?_⟩
 ·refine⟨_,rfl,rfl,_,rfl,?_⟩
  refine lb (λ_=>?_) (λ_=>⟨rfl,rfl⟩)
  refine⟨_,rfl,L2.kL,λa ha=>?_⟩
  have s7:=s6.new (o:=.lst [V.str x]) ha
  refine⟨_,rfl,a,m,_,_,rfl,rfl,a_,ip ha W8,by simp;omega,λb0 M8=>?_⟩
  have s8:=s7.new (o:=.lst ([V.str x]++gi (ts.take k++[x]++ts.drop k))) M8
  refine⟨_,rfl,_,_,rfl,rfl,⟨by decide,by decide⟩,c/60,rfl,λy H9 s9=>⟨L2.kL,λd hd=>?_⟩⟩
  have Bj:=(s8.trans s9).new (o:=.lst [V.str y]) hd
  refine⟨b0,d,_,_,rfl,rfl,ip hd (s9 _ _ a_),a_,by simp;omega,λp hp=>?_⟩
  refine q p _ _ (Bj.new hp) (Bj.free hp) ?_ (E8 ts k x x y)
  rw[a_]
  simp[gi]
 rintro Z H9 ⟨rfl,rfl⟩
 refine⟨λZ Fu=>Z=[rr t,ri c,ri k,rs x,rr m,ri (c%5),none,none]/\Fu=H9,?_,?_⟩
 ·refine⟨_,rfl,rfl,_,rfl,?_⟩
  refine lb (λ_=>?_) (λ_=>j_ ⟨rfl,rfl⟩)
  refine⟨_,rfl,_,_,rfl,rfl,_,rfl,t,_,rfl,.inl (h_.of HH),_,_,rfl,rfl,_,rfl,?_⟩
  refine lb (λh1=>?_) (λ_=>⟨rfl,rfl⟩)
  have h1:k+1<ts.length:=by have:=aau h1;rw[et] at this;omega
  have hx:ts[k]?=some ts[k]:=R7 (by omega)
  have hy:ts[k+1]?=some ts[k+1]:=R7 h1
  refine⟨_,rfl,_,rfl,_,_,rfl,rfl,t,_,_,_,rfl,rfl,h_.of HH,ig (j:=k+1) (by omega) (ju hy),_,rfl,_,rfl,_,rfl,t,_,_,_,rfl,rfl,h_.of HH,ig rfl (ju hx),L2.kL,λu hu=>?_⟩
  have s7:=s6.new (o:=.lst [V.str ts[k+1],V.str x,V.str ts[k]]) hu
  have ZJ:(upd H9 u (.lst [V.str ts[k+1],V.str x,V.str ts[k]])) u=some (.lst (gi [ts[k+1],x,ts[k]])):=a_
  generalize upd H9 u (.lst [V.str ts[k+1],V.str x,V.str ts[k]])=Pj at s7 ZJ
  refine⟨_,rfl,_,rfl,_,rfl,t,_,rfl,h_.of (s7 _ _ ht),λa ha=>?_⟩
  rw[se]
  have s8:=s7.new (o:=.lst (gi (ts.take k))) ha
  refine⟨_,rfl,a,u,_,_,rfl,rfl,a_,ip ha ZJ,by simp;omega,λd hd=>?_⟩
  have s9:=s8.new (o:=.lst (gi (ts.take k)++gi [ts[k+1],x,ts[k]])) hd
  refine⟨_,rfl,_,rfl,_,_,rfl,rfl,_,rfl,t,_,rfl,h_.of (s9 _ _ ht),λe he=>?_⟩
  have Bj:=s9.new (o:=.lst (uG (gi ts) (some ((k:Int)+2)) none)) he
  refine⟨d,e,_,gi (ts.drop (k+2)),rfl,rfl,ip he a_,by rw[a_,wI ts (k:=k+2) (by omega)],by simp;omega,λp hp=>?_⟩
  refine q p _ _ (Bj.new hp) (Bj.free hp) ?_ (Hj ts k ts[k+1] x ts[k] h1)
  rw[a_,o_,o_]
 rintro Z Fu ⟨rfl,rfl⟩
 exact⟨_,rfl,q m _ _ s6 hmH W8 (Hi ts k x)⟩
theorem uo(D:Dk)(s:Str)(p:Pt):(D.keep s p).names=D.names++[p.nm]:=by
 show(D.made++[p]).map (·.nm)=_
 rw[aar];rfl
theorem vG{K:Qqy}{H H':Hp}{a:Addr}{xs:List V}(h:h_ K H a xs)(s:gg H H'):h_ K H' a xs:=by
 rcases h with(h|⟨u,h⟩)|h
 ·exact .inl (.inl (s _ _ h))
 ·exact .inl (.inr ⟨u,s _ _ h⟩)
 ·exact .inr h
abbrev wJ(ns:List Int)(i:Int):Int:=cellAt ns i%20736
noncomputable def Mt(ns:List Int):List Str:=[nameOf (wJ ns 0) 0,nameOf (wJ ns 0) 1,nameOf (wJ ns 0) 2]
noncomputable def Ks(ns:List Int):List Str:=[nameOf (wJ ns 1) 0,nameOf (wJ ns 1) 1]
end
inductive Dv where
 | o
 | s (x:Str)
 | i (n:Int)
 | l (xs:List Dv)
 | t (xs:List Dv)
inductive Rep(H:Hp):Nat->V->Dv->Prop
 | o {n}:Rep H n .jb .o
 | s {n x}:Rep H n (.str x) (.s x)
 | i {n x}:Rep H n (.int x) (.i x)
 | l {n a vs xs} (h:H a=some (.lst vs)) (hl:vs.length=xs.length) (hr:∀(j:Nat) u d,vs[j]?=some u->xs[j]?=some d->Rep H n u d):Rep H (n+1) (.ref a) (.l xs)
 | t {n a vs xs} (h:H a=some (.tup vs)) (hl:vs.length=xs.length) (hr:∀(j:Nat) u d,vs[j]?=some u->xs[j]?=some d->Rep H n u d):Rep H (n+1) (.ref a) (.t xs)
theorem Rep.up{H:Hp}{n:Nat}{v:V}{d:Dv}(r:Rep H n v d):Rep H (n+1) v d:=by
 induction r with
 | o=>exact .o
 | s=>exact .s
 | i=>exact .i
 | l h hl _ ih=>exact .l h hl ih
 | t h hl _ ih=>exact .t h hl ih
theorem Rep.mono{H:Hp}{n m:Nat}{v:V}{d:Dv}(r:Rep H n v d)(h:n<=m):Rep H m v d:=by
 obtain⟨k,rfl⟩:=Nat.exists_eq_add_of_le h
 induction k with
 | zero=>exact r
 | succ k ih=>exact(ih (by omega)).up
theorem all_true(n:Nat):((List.range n).all λ_=>true)=true:=by rw[abO];intro x _;rfl
theorem Rep.eq{K:Qqy}{H:Hp}{n:Nat}{u v:V}{d:Dv}(r1:Rep H n u d):Rep H n v d->o7 K H n u v true:=by
 induction r1 generalizing v with
 | @o n=>
  intro r2
  cases r2
  exact o7.flat (K:=K) (H:=H) (n:=n) (x:=V.jb) (y:=V.jb) rfl rfl
 | @s n x=>
  intro r2
  cases r2
  have:=o7.Ip (K:=K) (H:=H) (n:=n) x x
  rw[V7 rfl] at this
  exact this
 | @i n x=>
  intro r2
  cases r2
  have:=o7.NT (K:=K) (H:=H) (n:=n) x x
  rw[V7 rfl] at this
  exact this
 | @l n a vs xs h hl hr ih=>
  intro r2
  cases r2 with
  | @l _ c ws _ h' Cm W9=>
   have:=o7.lists (K:=K) (H:=H) (n:=n) (e:=λ_=>true) (h_.of h) (h_.of h') (hl.trans Cm.symm) λj u v hu hv=>by
    have hj:j<xs.length:=by rw[<-hl];exact(List.getElem?_eq_some_iff.mp hu).1
    exact ih j u _ hu (R7 hj) (W9 j v _ hv (R7 hj))
   rw[all_true] at this
   exact this
 | @t n a vs xs h hl hr ih=>
  intro r2
  cases r2 with
  | @t _ c ws _ h' Cm W9=>
   have:=o7.pT (K:=K) (H:=H) (n:=n) (e:=λ_=>true) (qT.of h) (qT.of h') λj u v hu hv=>by
    have hj:j<xs.length:=by rw[<-hl];exact(List.getElem?_eq_some_iff.mp hu).1
    exact ih j u _ hu (R7 hj) (W9 j v _ hv (R7 hj))
   rw[all_true,hl,Cm,beq_self_eq_true,Bool.and_true] at this
   exact this
theorem Rep.Hk{H:Hp}{n:Nat}{a:Addr}{Y:Type}{F:V->Y->Prop}{g:Y->Dv}{vs:List V}{xs:List Y}(h:H a=some (.lst vs))(p:Paired F vs xs)(hF:∀v x,F v x->Rep H n v (g x)):Rep H (n+1) (.ref a) (.l (xs.map g)):=by
 refine .l h (by rw[QU];exact aaj p) λj u d hu hd=>?_
 obtain⟨x,hx,f⟩:=il p hu
 rw[YI,hx] at hd
 cases hd
 exact hF u x f
def Ro(row:List Ln):Dv:=.l (row.map λl=>.t [.s l.nm.1,.i l.nm.2,.s l.tx])
theorem lS.rep{H:Hp}{a:Addr}{row:List Ln}(x:lS H a row):Rep H 2 (.ref a) (Ro row):=by
 obtain⟨vs,h,p⟩:=x
 refine Rep.Hk h p λv l ⟨t,e,ht⟩=>?_
 subst e
 refine .t ht rfl λj u d hu hd=>?_
 match j with
 | 0=>cases hu;cases hd;exact .s
 | 1=>cases hu;cases hd;exact .i
 | 2=>cases hu;cases hd;exact .s
 | j+3=>simp at hu
end PK
namespace L2
open PySem PySem.Spec PyProof.Rows
theorem zA{Z:Type}:∀{l:List Z} {i:Nat} (h:i<l.length),(l[i]::l.eraseIdx i).Perm l
 | x::l,0,h=>.refl _
 | x::l,i+1,h=>(List.Perm.swap x _ _).trans (List.Perm.cons x (zA (l:=l) (i:=i) (Nat.lt_of_succ_lt_succ h)))
theorem Gf{Z:Type}(f:Nat->Nat):∀(n k:Nat)(l:List Z)(out:Array Z),l.length=n->(pickOrder.go f n k l out).toList.Perm (out.toList++l)
 | 0,k,l,out,h=>by
  have:l=[]:=aas.mp h
  subst this
  unfold pickOrder.go
  rw[aaJ]
 | n+1,k,l,out,h=>by
  have hi:f k%l.length<l.length:=Nat.mod_lt _ (by omega)
  unfold pickOrder.go
  rw[R7 hi]
  dsimp only
  refine(Gf f n (k+1) _ _ (by rw[List.length_eraseIdx_of_lt hi,h];rfl)).trans ?_
  rw[Array.toList_push,aaK]
  exact List.Perm.append_left _ (zA hi)
theorem JA{Z:Type}(f:Nat->Nat)(xs:Array Z):(pickOrder f xs).toList.Perm xs.toList:=by
 have:=Gf f xs.size 0 xs.toList #[] (by simp)
 unfold pickOrder
 simpa using this
section
variable{prog:Program}{w:World}{A:Around}{E:Qqq}
theorem E9{s:Shared}{src:Source}{n:Nat}{Q:Nat->Shared->Prop}(hn:n≠0)(h:∀i d,i<n->Q i {s with drawn:=d}):wpAny (model prog w) A (choose src n) Q E s:=λΓ p _=>by
 unfold choose
 rw[Sem.wp_choose]
 exact⟨hn,h _ _ (Nat.mod_lt _ (Nat.pos_of_ne_zero hn))⟩
theorem DY{Z:Type}:∀(n:Nat)(xs:List Z){s:Shared}{Q:List Z->Shared->Prop},xs.length=n->(∀ys d,ys.Perm xs->Q ys {s with drawn:=d})->wpAny (model prog w) A (drawOrder n xs) Q E s
 | 0,xs,s,Q,h,hQ=>by
  have:xs=[]:=aas.mp h
  subst this
  unfold drawOrder
  exact R8 (hQ [] s.drawn .nil)
 | n+1,[],s,Q,h,hQ=>by cases h
 | n+1,x::xs,s,Q,h,hQ=>by
  unfold drawOrder
  refine Ph (E9 (by simp) λi d hi=>?_)
  rw[R7 hi]
  refine Ph (DY n _ (by rw[List.length_eraseIdx_of_lt hi,h];rfl) λys d' hp=>?_)
  exact R8 (hQ _ d' ((List.Perm.cons _ hp).trans (zA hi)))
end
abbrev PX(w:World)(e:Int×Value):Prop:=∃y t,e=(hashStr w y,.str y t)
def kJ(w:World)(h:Heap)(a:Addr)(xs:List Str)(led:Bool):Prop:=
 ∃o es ep t,h.get? a=some o/\o.ExactSet/\o.data=.set es ep t/\(∀e∈es.toList,PX w e)/\(es.toList.map λe=>strOf e.2).Perm xs/\t.fits es.size=true/\(es.size≠0->t.plain=false)/\t.led=led
theorem kJ.at{w:World}{h h':Heap}{a:Addr}{xs:List Str}{led:Bool}(x:kJ w h a xs led)(k:∀o,h.get? a=some o->h'.get? a=some o):kJ w h' a xs led:=by
 obtain⟨o,es,ep,t,ho,r⟩:=x
 exact⟨o,es,ep,t,k o ho,r⟩
theorem E_(t:SetTable)(es:Array (Int×Value))(h:Int)(x:Value):(layNew t es h x).2.1.led=t.led:=by
 unfold layNew
 split
 ·dsimp only
  unfold SetTable.orStandIn
  split<;>rfl
 ·rfl
theorem Fb{t t':SetTable}{hs:Array Int}{n:Nat}{o:Array Nat}(h:t.relaid hs n=some (t',o)):t'.led=t.led/\t'.plain=t.plain:=by
 unfold SetTable.relaid SetTable.laid at h
 cases hc:SetTable.layClean (SetTable.sizeAbove n-1) hs with
 | none=>rw[hc] at h;cases h
 | some v=>rw[hc] at h;cases h;exact⟨rfl,rfl⟩
theorem Cc(t:SetTable)(es:Array (Int×Value))(n:Nat):(relayAll t es n).2.1.led=t.led/\(t.plain=false->(relayAll t es n).2.1.plain=false):=by
 unfold relayAll
 split
 ·rename_i t' o h
  have:=Fb h
  dsimp only
  split
  ·exact⟨this.1,λe=>this.2.trans e⟩
  ·exact⟨rfl,λ_=>rfl⟩
 ·exact⟨rfl,λ_=>rfl⟩
def nr(xs:List Str)(x:Str):List Str:=if x∈xs then xs else xs++[x]
section
variable{prog:Program}{w:World}{A:Around}{E:Qqq}{s:Shared}{a:Addr}{led:Bool}
theorem OG{l:List (Int×Value)}(h:∀e∈l,PX w e):ElemsOf (PySem.strKind prog w) l:=λe he=>by
 obtain⟨y,t,rfl⟩:=h e he
 exact⟨⟨y,by simp[PySem.strKind,Value.isStrOf],rfl⟩,rfl⟩
theorem kJ.put{h:Heap}{o:Obj}{es es':Array (Int×Value)}{ep:Nat}{t t':SetTable}{xs:List Str}(ho:h.get? a=some o)(hex:o.ExactSet)(hd:o.data=.set es ep t)(HI:∀e∈es'.toList,PX w e)
  (hp:(es'.toList.map λe=>strOf e.2).Perm xs) (hf:t'.fits es'.size=true) (qP:t'.plain=false) (hl:t'.led=led) :
  (h.update a (Obj.putSet es' t')).get? a=some {o with data:=.set es' (ep+1) t'}/\kJ w (h.update a (Obj.putSet es' t')) a xs led:=by
 have hg:(h.update a (Obj.putSet es' t')).get? a=some {o with data:=.set es' (ep+1) t'}:=by
  have:=aaS (Obj.putSet es' t') ho (by rw[putSet_of es' t' hd];rfl)
  rwa [putSet_of es' t' hd] at this
 exact⟨hg,_,es',ep+1,t',hg,hex,rfl,HI,hp,hf,λ_=>qP,hl⟩
theorem add_str{x:Str}{tk:Tok}{xs:List Str}{Q:Bool->Shared->Prop}(hS:kJ w s.heap a xs led)(hroom:xs.length+1<scanBound)
  (h:∀h' b,Heap.SameBut a s.heap h'->kJ w h' a (nr xs x) led->Q b {s with heap:=h'}):wpAny (model prog w) A (setAddHashed a (.str x tk) (hashStr w x)) Q E s:=by
 obtain⟨o,es,ep,t,ho,hex,hd,HI,hp,hf,qP,hl⟩:=id hS
 have hlen:es.size=xs.length:=by rw[<-hp.length_eq,QU,aaB]
 have hE:ElemsOf (PySem.strKind prog w) es.toList:=OG HI
 have hk:(PySem.strKind prog w).is x (.str x tk)=true:=by simp[PySem.strKind,Value.isStrOf]
 have gw:∀(b:Bool){s1:Shared}{Q':Unit->Shared->Prop},Q' () s1->wpAny (model prog w) A (match b with|true=>rule "set.scan.the-table-gave-way"|false=>pure ()) Q' E s1:=λb _ _ q=>by
  cases b
  ·exact R8 q
  ·exact wpAny_rule q
 unfold setAddHashed setAddHashedIn
 refine aa9 (Ph (wpAny_setState_of ho hd hf ?_))
 dsimp only
 rw[byScan_of (knd:=PySem.strKind prog w) rfl (by omega) hE,aag rfl]
 unfold setAddByScan
 refine Ph (Ph (wpAny_rule (Ph (wpAny_setScan_of (knd:=PySem.strKind prog w) hk ho hd hf hE ?_))))
 cases hr:List.findIdx? (λe=>(PySem.strKind prog w).is x e.2) es.toList with
 | some j=>
  dsimp only
  obtain⟨hj,hpj,_⟩:=List.findIdx?_eq_some_iff_getElem.mp hr
  obtain⟨t',e'⟩:=Value.isStrOf_shape (x:=x) (v:=es.toList[j].2) hpj
  have hm:x∈xs:=hp.mem_iff.mp (List.mem_map.mpr ⟨_,List.getElem_mem hj,by rw[e'];rfl⟩)
  refine R8 (R8 (h s.heap _ (Heap.SameBut.refl a s.heap) ?_))
  unfold nr
  rw[aag hm]
  exact hS
 | none=>
  dsimp only
  have hm:¬x∈xs:=λhx=>by
   obtain⟨e,he,q⟩:=List.mem_map.mp (hp.mem_iff.mpr hx)
   obtain⟨y,u,rfl⟩:=HI e he
   have q:y=x:=q
   have:=List.findIdx?_eq_none_iff.mp hr _ he
   simp[PySem.strKind,Value.isStrOf,q] at this
  have lp:=layNew_perm t es (hashStr w x) (.str x tk)
  have lf:=layNew_fits t es (hashStr w x) (.str x tk)
  have ll:=E_ t es (hashStr w x) (.str x tk)
  show wpAny _ _ (match layNew t es (hashStr w x) (.str x tk) with|(es,t,wasDummy,gave)=>_) _ _ _
  generalize layNew t es (hashStr w x) (.str x tk)=L at lp lf ll ⊢
  obtain⟨Az,t1,wd,gv⟩:=L
  dsimp only at lp lf ll ⊢
  rw[Array.toList_push] at lp
  have S5:∀e∈Az.toList,PX w e:=λe he=>by
   rcases YD.mp (lp.mem_iff.mp he) with z|z
   ·exact HI e z
   ·rw[Sd.mp z];exact⟨x,tk,rfl⟩
  have vJ:(Az.toList.map λe=>strOf e.2).Perm (nr xs x):=by
   refine(lp.map _).trans ?_
   unfold nr
   rw[aac hm,aar]
   exact List.Perm.append_right _ hp
  have hsz1:Az.size=xs.length+1:=by rw[<-aaB,lp.length_eq,Vh,aaB,hlen];rfl
  refine Ph (gw _ ?_)
  have key:∀t2:SetTable,t2.fits Az.size=true->t2.plain=false->t2.led=led->wpAny (model prog w) A (do
    storeSet a Az t2
    if(
      !wd&&t2.tooFull)=true then do
      (match (relayAll t2 Az (SetTable.grown Az.size)).2.2 with|true=>rule "set.scan.the-table-gave-way"|false=>pure ())
      storeSet a (relayAll t2 Az (SetTable.grown Az.size)).1 (relayAll t2 Az (SetTable.grown Az.size)).2.1
      pure (some true)
     else pure (some true)) (λr s'=>wpAny (model prog w) A (match r with|some added=>pure added|none=>setAddHashedIn a (.str x tk) (hashStr w x) 99999) Q E s') E s:=λt2 f2 p2 l2=>by
   refine Ph (wpAny_storeSet_of ho hd ?_ (fits_of_scanBound (by omega)))
   obtain⟨g1,S1⟩:=kJ.put ho hex hd S5 vJ f2 p2 l2
   have ZK:=aaZ s.heap a (Obj.putSet Az t2)
   split
   ·have rp:=relayAll_perm t2 Az (SetTable.grown Az.size)
    have rf:=relayAll_fits t2 Az (SetTable.grown Az.size)
    have rl:=Cc t2 Az (SetTable.grown Az.size)
    generalize relayAll t2 Az (SetTable.grown Az.size)=R at rp rf rl ⊢
    obtain⟨ZL,t3,g2⟩:=R
    dsimp only at rp rf rl ⊢
    have hsz2:ZL.size=Az.size:=by rw[<-aaB,rp.length_eq,aaB]
    refine Ph (gw _ (Ph (wpAny_storeSet_of g1 rfl ?_ (fits_of_scanBound (by omega)))))
    obtain⟨_,S2⟩:=kJ.put (w:=w) (led:=led) (es':=ZL) (t':=t3) g1 hex rfl (λe he=>S5 e (rp.mem_iff.mp he)) ((rp.map _).trans vJ) rf (rl.2 p2) (rl.1.trans l2)
    exact R8 (R8 (h _ _ (ZK.trans (aaZ _ a _)) S2))
   ·exact R8 (R8 (h _ _ ZK S1))
  split
  ·refine Ph ?_
   rw[hashByValue_scannable 8 rfl]
   refine R8 ?_
   rw[show plainKind (.str x tk)=false from rfl,aac (by decide)]
   exact key _ (SetTable.fits_plain_off lf) rfl (ll.trans hl)
  ·rename_i W_
   refine Ph (R8 ?_)
   rw[aag rfl]
   exact key _ lf (by simpa using W_) (ll.trans hl)
end
theorem Hl(xs:List Str)(x:Str):(nr xs x).length<=xs.length+1:=by
 unfold nr
 split
 ·exact ab2 _
 ·rw[Vh];exact Vb _
theorem Hm{xs:List Str}{x y:Str}:y∈nr xs x↔y∈xs\/y=x:=by
 unfold nr
 split
 ·rename_i h
  exact⟨.inl,λz=>z.elim id λe=>e▸h⟩
 ·rw[YD,Sd]
theorem JB{xs:List Str}{x:Str}(h:xs.Nodup):(nr xs x).Nodup:=by
 unfold nr
 split
 ·exact h
 ·rename_i hx
  exact aa5.mpr ⟨h,by simp,λa ha b hb e=>hx (by rw[<-Sd.mp hb,<-e];exact ha)⟩
abbrev zB(ss:List Str)(i:Nat):List Str:=(ss.take i).foldl nr []
theorem Hn{ss:List Str}{i:Nat}{x:Str}(h:ss[i]?=some x):zB ss (i+1)=nr (zB ss i) x:=by
 unfold zB
 rw[List.take_add_one,h,List.foldl_append]
 rfl
theorem JC:∀(ss xs:List Str),(ss.foldl nr xs).length<=xs.length+ss.length/\(∀y,y∈ss.foldl nr xs↔y∈xs\/y∈ss)/\(xs.Nodup->(ss.foldl nr xs).Nodup)
 | [],xs=>⟨Vb _,λy=>by simp,id⟩
 | x::ss,xs=>by
  obtain⟨h1,h2,h3⟩:=JC ss (nr xs x)
  refine⟨?_,λy=>?_,λh=>h3 (JB h)⟩
  ·rw[acf,W7]
   have:=Hl xs x
   omega
  ·rw[acf,h2,Hm,V9,or_assoc]
theorem JD(ss:List Str)(i:Nat):(zB ss i).length<=i:=by
 have:=(JC (ss.take i) []).1
 rw[aaA] at this
 simp only [acs] at this
 unfold zB
 omega
section
variable{prog:Program}{w:World}{A:Around}{R:Result->Shared->Prop}{I:Addr}{fp wr:List Addr}{G:Array GenState->Array GenState->Prop}{n:Nat}{P:Nat->Value->Prop}{St:Nat->Shared->Prop}{led:Bool}
theorem DZ(W:WalksS prog w A.in1 I fp wr G n P St)(S:Addr)(Mi:S∉fp)(ss:List Str)(Ax:∀i v,P i v->∃x t,v=.str x t/\ss[i]?=some x)(hb:n+1<scanBound) :
  ∀(k i:Nat)(s:Shared),n-i=k->i<=n->St i s->kJ w s.heap S (zB ss i) led->(∀s',Moved (S::wr) G s s'->kJ w s'.heap S (zB ss n) led->R (.ok (.ret .none)) s')->
   codeAny (model prog w) A (.builtin "set.update.loop" ⟨[.ref S,.ref I],[]⟩) R s
 | 0,i,s,hk,hi,st,hS,hR=>by
  have:i=n:=by omega
  subst this
  refine abM PyProof.Rows.F.entry_set_update_loop ?_
  rw[abo PyProof.Rows.F.plain_set_update_loop _]
  show wpAny _ A.in1 (pyNext (.ref I) >>= _) _ _ s
  refine Ph (W.done s _ _ st λs' hm=>R8 (hR s' (hm.mono λb hb=>YE _ hb) (hS.at λo e=>hm.heap S o (λz=>Mi (W.sub _ z)) e)))
 | k+1,i,s,hk,hi,st,hS,hR=>by
  refine abM PyProof.Rows.F.entry_set_update_loop ?_
  rw[abo PyProof.Rows.F.plain_set_update_loop _]
  show wpAny _ A.in1 (pyNext (.ref I) >>= _) _ _ s
  refine Ph (W.item i s _ _ (by omega) st λv s' hP wO hm=>?_)
  obtain⟨x,t,rfl,hx⟩:=Ax i v hP
  have Kx:=hS.at (h':=s'.heap) λo e=>hm.heap S o (λz=>Mi (W.sub _ z)) e
  show wpAny _ A.in1 (holding [Value.str x t] (setAdd S (.str x t)) >>= _) _ _ s'
  refine Ph (aa9 ?_)
  unfold setAdd
  refine aa9 (Ph ((PySem.strKind prog w).pyHash (k:=x) (by simp[PySem.strKind,Value.isStrOf]) ?_))
  refine add_str (s:={s' with toks:=s'.toks+1}) Kx (by have:=JD ss i;omega) λh' b MR ZM=>?_
  rw[<-Hn hx] at ZM
  refine R8 ⟨ab6 PyProof.Rows.F.plain_set_update_loop _,DZ W S Mi ss Ax hb k (i+1) _ (by omega) (by omega) (W.frame _ s' _ _ wO (ab2 _) λb hb o e=>?_) ZM λFp Xa Xb=>?_⟩
  ·rw[MR.2 b (λz:b=S=>Mi (z▸hb))];exact e
  ·refine hR Fp (Moved.trans W.gtrans ((hm.mono λb hb=>YE _ hb).then_heap (ab2 _) λb o hb e=>?_) Xa) Xb
   rw[MR.2 b (λz:b=S=>hb (z▸aae))];exact e
end
section
variable{prog:Program}{w:World}{A:Around}{E:Qqq}{s:Shared}
noncomputable abbrev Cd(led:Bool):Obj:={cls:=.type "set",dict:=none,data:=.set #[] 0 (.fresh 0 0 led)}
abbrev vH(w:World):Bool:=!(w.params.followText "set-order")
theorem LU(a:Value){Qa:Qqq}(h:Qa (.ref s.heap.objs.size) {s with heap:=s.heap.push (Cd (vH w))}) :
  codeAny (model prog w) A (.call (.builtin "set.__new__") ⟨[.type "set",a],[]⟩) (wants Qa E) s:=by
 refine codeAny_of_tree ?_
 show wpAny _ A.in1 (do checkBuiltinCall "set.__new__" ⟨[.type "set",a],[]⟩;again (.builtin "set.__new__" ⟨[.type "set",a],[]⟩)) _ _ s
 refine Ph (abL (PySem.F.newCall_set_1 a) (R8 ⟨ab6 PySem.F.plain_set_new _,abM PySem.F.entry_set_new ?_⟩))
 rw[abo PySem.F.plain_set_new _]
 unfold Builtin.«set.__new__» Builtin.Frozenset.newClass
 have x_:=PySem.sub_set_self
 obtain⟨hp,g,d,tk,os⟩:=s
 dsimp only
 wp_walk
 refine wpAny_askSetting (R8 ?_)
 dsimp only
 simp only [newObj]
 exact Ph (wpAny_alloc (R8 (R8 h)))
theorem Ho{l:Addr}{items:Array Value}{ss:List Str}{Q:Qqq}(hh:A.handled=none)(hl:s.heap.IsList l items)(hi:StrsAre items.toList ss)(hb:items.size+1<scanBound)
  (h:∀(h':Heap)(tk:Nat),kJ w h' s.heap.objs.size (zB ss items.size) (vH w)->(∀b o,s.heap.get? b=some o->h'.get? b=some o)->Q (.ref s.heap.objs.size) {s with heap:=h',toks:=tk}) :
  wpAny (model prog w) A (call (.type "set") [.ref l]) Q E s:=by
 obtain⟨c,tl,hmro⟩:=PySem.F.called_set.mro
 have hmade:=PySem.F.called_set.made
 have x_:=PySem.F.called_set.sub
 refine wpAny_call (codeAny_of_tree ?_)
 show wpAny _ _ (callAny (.type "set") _) _ _ _
 refine R8 ⟨Code.quiet_builtin _ (by decide+kernel),abM PySem.F.entry_type_call ?_⟩
 rw[Around.under_plain (weight_type_call_type "set" [.ref l] []) rfl]
 have h1:=PySem.F.called_set.notType
 have h2:=PySem.F.called_set.canCreate
 have hct:=PySem.F.typeCall_set_1 (.ref l)
 repeat (any_goals (first|assumption|wp_step))
 refine acd (LU (.ref l) (E:=E) (Qa:=λobj s1=>obj=.ref s.heap.objs.size/\s1={s with heap:=s.heap.push (Cd (vH w))}) ⟨rfl,rfl⟩) λr s1 hr=>?_
 cases r with
 | error e=>exact hr
 | ok fl=>
  cases fl with
  | ret obj=>
   obtain⟨rfl,rfl⟩:=hr
   have hS:(s.heap.push (Cd (vH w))).get? s.heap.objs.size=some (Cd (vH w)):=YK _ rfl
   have hT:Shared.TypeIs {s with heap:=s.heap.push (Cd (vH w))} (.ref s.heap.objs.size) "set":=⟨_,hS,rfl⟩
   have hli:=PySem.F.called_set.init.lookup
   have SN:=PySem.F.called_set.init.bind (.ref s.heap.objs.size)
   repeat (any_goals (first|assumption|wp_step))
   refine acd (codeAny_call_builtin (R:=wants (λr s2=>r=.none/\∃h' tk,s2={s with heap:=h',toks:=tk}/\kJ w h' s.heap.objs.size (zB ss items.size) (vH w)/\
     (∀b o,s.heap.get? b=some o->h'.get? b=some o)) E) PySem.F.called_set.init.plain PySem.F.entry_set_init (PySem.check_set_init_1 hT ?_)) λr2 s2 Xc=>?_
   ·obtain⟨ol,ZN,M0,nl,Sf⟩:=hl
    obtain⟨ocls,S6,odata,Pk⟩:=ol
    simp only at M0 Sf
    subst M0;subst Sf
    have Xe:(s.heap.push (Cd (vH w))).get? l=some {cls:=.type "list",dict:=S6,data:=.seq items nl,slots:=Pk}:=Ve _ ZN
    have hsls:=PySem.F.sub_list_set
    have hslf:=PySem.F.sub_list_frozenset
    have qt:(Value.type "list" ==Value.type "dict")=false:=by decide
    have P4:(s.heap.push (Cd (vH w))).IsList l items:=⟨_,Xe,rfl,nl,rfl⟩
    unfold Builtin.«set.__init__» noKeywords Builtin.Frozenset.updateFrom
    generalize hPI:pyIter=PI
    wp_walk
    subst hPI
    refine wpAny_pyIter_list P4 ?_
    refine Ph (wpAny_runValue ?_)
    have ZO:l<s.heap.objs.size:=aak ZN
    have hsz:(s.heap.push (Cd (vH w))).objs.size=s.heap.objs.size+1:=aby _ _
    have Mi:s.heap.objs.size∉[(s.heap.push (Cd (vH w))).objs.size,l]:=by
     rw[hsz];simp only [V9,ab9,or_false,not_or]
     exact⟨aaD (abA _),ab1 ZO⟩
    refine DZ ((Walks.list (show A.in1.in1.in1.handled=none by simp[hh]) _ l (by rw[hsz];exact aaD (ack ZO)) items).toS) s.heap.objs.size Mi ss (λi v hv=>?_) hb (items.size-0) 0 _ (by omega) (aaI _)
     ⟨⟨_,YK _ rfl,rfl,rfl⟩,P4.push _⟩ (led:=vH w) ?_ λs' hm Kx=>?_
    ·have hv:items.toList[i]?=some v:=by rw[aaL];exact hv
     have:=hi.strs
     obtain⟨x,t,rfl⟩:=hi.all v (Xj hv)
     refine⟨x,t,rfl,?_⟩
     rw[<-this,YI,hv]
     rfl
    ·exact⟨_,#[],0,_,Ve _ hS,⟨rfl,rfl,rfl⟩,rfl,λe he=>by simp at he,.nil,rfl,λz=>absurd rfl z,rfl⟩
    ·obtain⟨h',g',d',Xf,RD⟩:=s'
     have eg:g'=s.gens:=hm.gens
     have ed:d'=s.drawn:=hm.drawn
     have eo:RD=s.os:=hm.os
     subst eg;subst ed;subst eo
     show wpAny _ _ _ _ _ _
     refine R8 ?_
     show wpAny _ _ (ret Value.none) _ _ _
     refine R8 ⟨rfl,h',Xf,rfl,Kx,λb o e=>?_⟩
     have hb:=aak e
     exact hm.heap b o (by rw[hsz];simp only [V9,ab9,or_false,not_or];exact⟨aaD hb,aaD (ack hb)⟩) (Ve _ (Ve _ e))
   ·cases r2 with
    | error e=>exact Xc
    | ok fl2=>
     cases fl2 with
     | ret r=>
      obtain⟨rfl,h',tk,rfl,Kx,Uu⟩:=Xc
      repeat (any_goals (first|assumption|wp_step))
      exact h _ _ Kx Uu
     | _=>exact Xc.elim
  | _=>exact hr.elim
end
def LV(h:Heap)(a:Addr)(es:Array (Int×Value))(ep:Nat)(t:SetTable):Prop:=∃o,h.get? a=some o/\o.ExactSet/\o.data=.set es ep t
def LW(h:Heap)(it:Addr)(vs:Array Value):Prop:=h.get? it=some {cls:=.type "set_iterator",dict:=none,data:=.fields vs,slots:=#[]}
def TH(h:Heap)(r:Addr)(ds:List Nat):Prop:=∃o,h.get? r=some o/\o.data=.seq (ds.map λ(i:Nat)=>rawInt i).toArray 0
noncomputable def qR(w:World)(a:Addr)(es:Array (Int×Value))(ep:Nat)(ds:List Nat):List (Int×Value):=
 if w.params.followText "set-order"=true then(pickOrder (w.params.setOrder a ep) es).toList else if es.size<=1 then es.toList else ds.map λk=>es.toList.getD k (0,.none)
def Way(w:World)(h:Heap)(it a r:Addr)(es:Array (Int×Value))(ep:Nat)(t:SetTable)(ds:List Nat)(i:Nat):Prop:=
 LV h a es ep t/\((w.params.followText "set-order"=true/\LW h it #[.int 0 0,.int i 0,.ref a,.int es.size 0,.int ep 0])\/
  (w.params.followText "set-order"=false/\es.size<=1/\t.led=true/\∃q:Nat,LW h it #[.int q 0,.int i 0,.ref a,.int es.size 0,.int ep 0]/\SetTable.below t.place q=i)\/
  (w.params.followText "set-order"=false/\¬es.size<=1/\TH h r ds/\LW h it #[.ref r,.int i 0,.ref a,.int es.size 0,.int ep 0]))
theorem Hq{Z:Type}(d:Z){l:List Z}{ds:List Nat}(hp:ds.Perm (List.range l.length)):(ds.map λi=>l.getD i d).Perm l:=by
 have e:(List.range l.length).map (λi=>l.getD i d)=l:=by
  refine acm λk=>?_
  rw[YI]
  by_cases h:k<l.length
  ·rw[ab7 h,R7 h]
   simp[List.getD,R7 h]
  ·rw[aci (by rw[abG];omega),aci (by omega)]
   rfl
 have:=hp.map (λi=>l.getD i d)
 rwa [e] at this
theorem si{w:World}{a:Addr}{es:Array (Int×Value)}{ep:Nat}{ds:List Nat}(hp:ds.Perm (List.range es.size)):(qR w a es ep ds).Perm es.toList:=by
 unfold qR
 split
 ·exact JA _ _
 ·split
  ·exact .refl _
  ·exact Hq _ (by rw[aaB];exact hp)
theorem Bc{p:Array Nat}{j:Nat}(h:p=#[j]):SetTable.below p 0=0/\SetTable.below p (j+1)=1:=by
 subst h
 constructor
 ·rfl
 ·unfold SetTable.below SetTable.below.go
  simp
  unfold SetTable.below.go
  rfl
section
variable{prog:Program}{w:World}{A:Around}{E:Qqq}{s:Shared}
theorem zC{it:Addr}{vs:Array Value}{Q:Option Value->Shared->Prop}(hh:A.handled=none)(hk:2<vs.size)(hi:LW s.heap it vs)(hQ:∀h',Heap.ExtBut it s.heap h'->Q none {s with heap:=h'}) :
  wpAny (model prog w) A.in1 (do setField (.ref it) 2 .none;let x <-newExc (.type "StopIteration") [];(raiseNew x:Sem PySem.Fin)) (λfin s'=>∃v,fin=Fin.done (Flow.ret v)/\wpAny (model prog w) A (pure (some v)) Q E s')
   (λe s'=>wpAny (model prog w) A (do let b <-isInstance e (.type "StopIteration");if b=true then pure none else throw e) Q E s') s:=by
 refine Ph (wpAny_setField hi rfl hk ?_)
 refine Ph ?_
 simp only [newExc,newTuple]
 refine Ph (aa_ ?_ (by size_fits))
 refine Ph (m:=firstArgMember _ _) (abL (a:=Value.none) (by first|rfl|(simp only [firstArgMember];rfl)) ?_)
 refine aa_ ?_ (by size_fits)
 simp only [raiseNew]
 refine Ph (wpAny_handled ?_)
 rw[show A.in1.handled=none from hh]
 refine Ph (R8 (wpAny_throw ?_))
 refine Ph (wpAny_isInstance (T:="StopIteration") (b:=true) ⟨_,YK _ rfl,rfl⟩ isSubtype_stop ?_)
 exact R8 (hQ _ (((aaZ ..).extBut.push _).push _))
theorem LW.keep{h h':Heap}{it:Addr}{vs:Array Value}(x:LW h it vs)(k:∀o,h.get? it=some o->h'.get? it=some o):LW h' it vs:=k _ x
theorem LV.keep{h h':Heap}{a:Addr}{es:Array (Int×Value)}{ep:Nat}{t:SetTable}(x:LV h a es ep t)(k:∀o,h.get? a=some o->h'.get? a=some o):LV h' a es ep t:=by
 obtain⟨o,ho,r⟩:=x
 exact⟨o,k o ho,r⟩
theorem TH.keep{h h':Heap}{a:Addr}{ds:List Nat}(x:TH h a ds)(k:∀o,h.get? a=some o->h'.get? a=some o):TH h' a ds:=by
 obtain⟨o,ho,r⟩:=x
 exact⟨o,k o ho,r⟩
theorem sO{it:Addr}{vs:Array Value}{k:Nat}{x:Value}{Q:Unit->Shared->Prop}(hi:LW s.heap it vs)(hk:k<vs.size)(h:∀h',LW h' it (vs.setIfInBounds k x)->Heap.SameBut it s.heap h'->Q () {s with heap:=h'}):wpAny (model prog w) A (setField (.ref it) k x) Q E s:=
 wpAny_setField_rec hi hk h
theorem D1{it a r:Addr}{es:Array (Int×Value)}{ep:Nat}{t:SetTable}{ds:List Nat}{i:Nat}{Q:Option Value->Shared->Prop}(hh:A.handled=none)(hw:Way w s.heap it a r es ep t ds i)(hf:t.fits es.size=true)(hp:ds.Perm (List.range es.size))(ha:a≠it)(hr:r≠it)
  (h1:∀e h',(qR w a es ep ds)[i]?=some e->Way w h' it a r es ep t ds (i+1)->Heap.SameBut it s.heap h'->Q (some e.2) {s with heap:=h'})
  (h0:(qR w a es ep ds)[i]?=none->∀h',Heap.ExtBut it s.heap h'->Q none {s with heap:=h'}):wpAny (model prog w) A (pyNext (.ref it)) Q E s:=by
 obtain⟨hs,hw⟩:=hw
 obtain⟨o,ho,hx,hd⟩:=id hs
 have S:∀{A:Around} {Q:(Array (Int×Value)×Nat×SetTable)->Shared->Prop} {E:Qqq},Q (es,ep,t) s->wpAny (model prog w) A (setState a) Q E s:=λh=>wpAny_setState_of ho hd hf h
 have Xg:∀{A:Around} {Q:Bool->Shared->Prop} {E:Qqq} {b:Bool},w.params.followText "set-order"=b->Q b s->wpAny (model prog w) A setsByText Q E s:=λe h=>Ph (wpAny_askSetting (R8 (by rw[<-e] at h;exact h)))
 have hT:s.TypeIs (.ref it) "set_iterator":=by
  rcases hw with⟨_,q⟩|⟨_,_,_,_,q,_⟩|⟨_,_,_,q⟩<;>exact⟨_,q,rfl⟩
 have ZP:((ep:Int).toNat)=ep:=rfl
 have Pl:(((es.size:Nat):Int) != (es.size:Int))=false:=by simp
 have Mr:(ep != ep)=false:=by simp
 unfold pyNext
 refine Ph (wpAny_attempt (wpAny_callSpecial?_slot (name:=Str.ofString "__next__") hT kO
  (aa8 kO hT yR ?_ (Ac _))))
 unfold Builtin.«set_iterator.__next__»
 refine Ph (R8 ?_)
 rcases hw with⟨hb,q⟩|⟨hb,Pm,hl,qn,q,Xh⟩|⟨hb,Pm,ZQ,q⟩
 ·refine Ph (ab_ q rfl ?_)
  dsimp only
  refine Ph (Ph (S (R8 ?_)))
  rw[aac (by rw[Pl];decide)]
  unfold setNext
  refine Ph (Ph (S (Ph (Xg hb ?_))))
  rw[aag rfl,aac (by rw[ZP,Mr];decide)]
  unfold setWalk
  refine Ph (Ph (S (Ph (Xg hb ?_))))
  rw[aag rfl]
  refine Ph (wpAny_askSetting (R8 (R8 ?_)))
  have eo:(qR w a es ep ds)[i]?=(pickOrder (w.params.setOrder a ep) es)[(i:Int).toNat]?:=by
   unfold qR
   rw[aag hb,aaL]
   rfl
  cases hq:(pickOrder (w.params.setOrder a ep) es)[(i:Int).toNat]? with
  | none=>
   rw[show(pickOrder ((model prog w).w.params.setOrder a ep) es)[(i:Int).toNat]?=none from hq]
   exact zC hh (by simp) q (h0 (eo.trans hq))
  | some e=>
   rw[show(pickOrder ((model prog w).w.params.setOrder a ep) es)[(i:Int).toNat]?=some e from hq]
   refine Ph (sO q (by simp) λh2 q2 Ke=>?_)
   refine Ph (sO (s:={s with heap:=h2}) q2 (by simp) λh3 q3 S7=>?_)
   refine R8 ⟨_,rfl,R8 (h1 e h3 (eo.trans hq) ⟨hs.keep λo e=>((Ke.trans S7).2 a ha).trans e,.inl ⟨hb,?_⟩⟩ (Ke.trans S7))⟩
   simpa[rawInt] using q3
 ·refine Ph (ab_ q rfl ?_)
  dsimp only
  refine Ph (Ph (S (R8 ?_)))
  rw[aac (by rw[Pl];decide)]
  unfold setNext
  refine Ph (Ph (S (Ph (Xg hb ?_))))
  rw[aac (by decide)]
  refine abi (λz=>?_) (λ_=>?_)
  ·have z:(!t.plain&&decide (es.size>1))=true:=z
   simp at z
   omega
  refine Ph ?_
  show wpAny _ _ (if(!t.led&&!es.isEmpty)=true then _ else _) _ _ _
  rw[aac (by rw[hl];simp)]
  refine R8 ?_
  rw[show(qn:Int).toNat=qn from rfl,Xh]
  have eo:(qR w a es ep ds)[i]?=es[i]?:=by
   unfold qR
   rw[aac (by rw[hb];decide),aag Pm,aaL]
  have qP:t.place.size=es.size:=by
   simp only [SetTable.fits,aaW,abN] at hf
   exact hf.1
  cases hq:es[i]? with
  | none=>
   refine R8 ?_
   rw[hq]
   exact zC hh (by simp) q (h0 (eo.trans hq))
  | some e=>
   have j9:=(Array.getElem?_eq_some_iff.mp hq).1
   have hi0:i=0:=by omega
   have vJ:t.place=#[t.place[0]'(by omega)]:=by
    apply Array.ext
    ·simp;omega
    ·intro j h1 h2
     have:j=0:=by omega
     subst this
     rfl
   subst hi0
   have hpq:t.place[0]?=some (t.place[0]'(by omega)):=aaO _
   refine R8 ?_
   rw[hq,hpq]
   refine Ph (sO q (by simp) λh2 q2 Ke=>?_)
   refine Ph (sO (s:={s with heap:=h2}) q2 (by simp) λh3 q3 S7=>?_)
   refine R8 ⟨_,rfl,R8 (h1 e h3 (eo.trans hq) ⟨hs.keep λo e=>((Ke.trans S7).2 a ha).trans e,.inr (.inl ⟨hb,Pm,hl,(t.place[0]'(by omega))+1,?_,?_⟩)⟩ (Ke.trans S7))⟩
   ·simpa[rawInt] using q3
   ·exact(Bc vJ).2
 ·obtain⟨ot,hot,hdt⟩:=id ZQ
  refine Ph (ab_ q rfl ?_)
  dsimp only
  refine Ph (Ph (S (R8 ?_)))
  rw[aac (by rw[Pl];decide)]
  refine Ph (wpAny_seqItems hot hdt ?_)
  dsimp only
  have eo:(qR w a es ep ds)[i]?=ds[i]?.map λk=>es.toList.getD k (0,.none):=by
   unfold qR
   rw[aac (by rw[hb];decide),aac Pm,YI]
  have et:(ds.map λ(i:Nat)=>rawInt i).toArray[(i:Int).toNat]?=ds[i]?.map λ(k:Nat)=>rawInt k:=by
   rw[List.getElem?_toArray,YI]
   rfl
  rw[et]
  cases hq:ds[i]? with
  | none=>
   refine Ph (sO q (by simp) λh2 q2 Ke=>?_)
   refine zC (s:={s with heap:=h2}) hh (by simp) q2 λh3 x3=>h0 (by rw[eo,hq];rfl) h3 λb o' VU e=>x3 b o' VU ((Ke.2 b VU).trans e)
  | some k=>
   have hk:k<es.size:=List.mem_range.mp (hp.mem_iff.mp (Xj hq))
   have Mf:k<es.toList.length:=by rw[aaB];exact hk
   have hek:es[k]?=some (es.toList.getD k (0,.none)):=by
    rw[<-aaL,R7 Mf]
    simp[List.getD,R7 Mf]
   refine Ph ?_
   unfold setNextDrawn
   refine Ph (S ?_)
   dsimp only
   rw[aac (by rw[ZP,Mr];decide),show(k:Int).toNat=k from rfl,hek]
   refine R8 ?_
   refine Ph (sO q (by simp) λh2 q2 Ke=>?_)
   refine R8 ⟨_,rfl,R8 (h1 _ h2 (by rw[eo,hq];rfl) ⟨hs.keep λo e=>(Ke.2 a ha).trans e,.inr (.inr ⟨hb,Pm,ZQ.keep λo e=>(Ke.2 r hr).trans e,?_⟩)⟩ Ke)⟩
   simpa[rawInt] using q2
theorem Hr(hh:A.handled=none){it a r:Addr}{es:Array (Int×Value)}{ep:Nat}{t:SetTable}{ds:List Nat}(hf:t.fits es.size=true)(hp:ds.Perm (List.range es.size))(ha:a≠it)(hr:r≠it) :
  Walks prog w A it [it,a,r] [it] es.size (λi v=>∃e,(qR w a es ep ds)[i]?=some e/\v=e.2) (λi h=>Way w h it a r es ep t ds i) where
 sub:=λb hb=>by simp at hb;simp[hb]
 frame:=λi h h' st k=>by
  obtain⟨hs,st⟩:=st
  refine⟨hs.keep λo e=>k a (by simp) o e,?_⟩
  have ki:=λo e=>k it (by simp) o e
  rcases st with⟨hb,q⟩|⟨hb,x1,x2,n,q,x3⟩|⟨hb,x1,x2,q⟩
  ·exact .inl ⟨hb,q.keep ki⟩
  ·exact .inr (.inl ⟨hb,x1,x2,n,q.keep ki,x3⟩)
  ·exact .inr (.inr ⟨hb,x1,x2.keep λo e=>k r (by simp) o e,q.keep ki⟩)
 item:=λi s Q E hi st hQ=>by
  have hlen:(qR w a es ep ds).length=es.size:=by rw[(si hp).length_eq,aaB]
  exact D1 hh st hf hp ha hr (λe h' he wO sb=>hQ _ h' s.toks ⟨e,he,rfl⟩ wO λb o hb q=>(sb.2 b (λz=>hb (by simp[z]))).trans q) λhn=>absurd (List.getElem?_eq_none_iff.mp hn) (by omega)
 done:=λs Q E st hQ=>by
  have hlen:(qR w a es ep ds).length=es.size:=by rw[(si hp).length_eq,aaB]
  exact D1 hh st hf hp ha hr (λe h' he _ _=>absurd (List.getElem?_eq_some_iff.mp he).1 (by omega)) λ_ h' x=>hQ h' s.toks λb o hb q=>x b o (λz=>hb (by simp[z])) q
 self:=λi s Q E st hQ=>by
  have hT:s.TypeIs (.ref it) "set_iterator":=by
   rcases st.2 with⟨_,q⟩|⟨_,_,_,_,q,_⟩|⟨_,_,_,q⟩<;>exact⟨_,q,rfl⟩
  refine wpAny_pyIter_slot hT tD (aa8 tD hT yS ?_ (Ae _))
  show wpAny _ _ (ret (.ref it)) _ _ s
  exact R8 ⟨_,rfl,"set_iterator",_,hT,kO.lookup,hQ⟩
theorem JE{a:Addr}{xs:List Str}{Q:Qqq}(hh:A.handled=none)(hS:kJ w s.heap a xs (!(w.params.followText "set-order")))(ZR:xs.length<=sizeLine)
  (hQ:∀h' d it r es ep t ds,s.heap.objs.size<=it->(r=a\/s.heap.objs.size<=r)->(∀b o,s.heap.get? b=some o->h'.get? b=some o)->t.fits es.size=true->ds.Perm (List.range es.size)->a≠it->r≠it->(∀e∈es.toList,PX w e)->(es.toList.map λe=>strOf e.2).Perm xs->Way w h' it a r es ep t ds 0->Q (.ref it) {s with heap:=h',drawn:=d}):wpAny (model prog w) A (pyIter (.ref a)) Q E s:=by
 obtain⟨o,es,ep,t,ho,hx,hd,HI,hp,hf,qP,hl⟩:=hS
 have hT:s.TypeIs (.ref a) "set":=⟨o,ho,hx.1⟩
 have j9:a<s.heap.objs.size:=aak ho
 have hlen:es.size=xs.length:=by rw[<-hp.length_eq,QU,aaB]
 refine wpAny_pyIter_slot hT PySem.F.slot_set_iter (aa8 PySem.F.slot_set_iter hT yQ ?_ (Ab _))
 unfold Builtin.«frozenset.__iter__»
 have S:∀{A:Around} {Q:(Array (Int×Value)×Nat×SetTable)->Shared->Prop} {E:Qqq},Q (es,ep,t) s->wpAny (model prog w) A (setState a) Q E s:=λh=>wpAny_setState_of ho hd hf h
 refine Ph (R8 ?_)
 refine Ph (Ph (Ph (S (R8 (R8 ?_)))))
 refine Ph (Ph (S ?_))
 dsimp only
 unfold setsByText
 refine Ph (Ph (wpAny_askSetting (R8 (R8 ?_))))
 refine abi (λh=>?_) (λh=>?_)
 ·rw[aaW] at h
  have hb:w.params.followText "set-order"=false:=by
   have:(!(w.params.followText "set-order"))=true:=h.1
   simpa using this
  have h2:(!t.plain&&decide (es.size>1))=true:=h.2
  have hgt:es.size>1:=by simp at h2;exact h2.2
  refine Ph (DY es.size (List.range es.size) (by simp) λds d Qg=>?_)
  refine Ph (wpAny_newTuple ?_ (by rw[QU,Qg.length_eq,abG];omega))
  have kp:∀b o',s.heap.get? b=some o'->(s.heap.push {cls:=.type "tuple",data:=.seq (ds.map λ(i:Nat)=>rawInt i).toArray}).get? b=some o':=λb o' e=>Ve _ e
  refine Ph (Ph (wpAny_setState_of (kp _ _ ho) hd hf (R8 ?_)))
  refine Ph (aa_ (R8 ⟨_,rfl,"set_iterator",_,⟨_,YK _ rfl,rfl⟩,kO.lookup,?_⟩))
  have hsz:(s.heap.push {cls:=.type "tuple",data:=.seq (ds.map λ(i:Nat)=>rawInt i).toArray}).objs.size=s.heap.objs.size+1:=aby _ _
  refine hQ _ _ _ s.heap.objs.size es ep t ds (by rw[hsz];exact ab2 _) (.inr (Vb _)) (λb o e=>Ve _ (kp b o e)) hf Qg (by rw[hsz];exact aaD (ack j9)) (by rw[hsz];exact aaD (abA _)) HI hp ?_
  refine⟨⟨o,Ve _ (kp _ _ ho),hx,hd⟩,.inr (.inr ⟨hb,by omega,⟨_,Ve _ (YK _ rfl),rfl⟩,?_⟩)⟩
  exact YK _ rfl
 ·refine Ph (R8 (Ph (Ph (S (R8 ?_)))))
  refine Ph (aa_ (R8 ⟨_,rfl,"set_iterator",_,⟨_,YK _ rfl,rfl⟩,kO.lookup,?_⟩))
  refine hQ _ s.drawn _ a es ep t (List.range es.size) (Vb _) (.inl rfl) (λb o e=>Ve _ e) hf (.refl _) (aaD j9) (aaD j9) HI hp ?_
  refine⟨⟨o,Ve _ ho,hx,hd⟩,?_⟩
  cases hb:w.params.followText "set-order" with
  | true=>exact .inl ⟨rfl,YK _ rfl⟩
  | false=>
   have Pm:es.size<=1:=by
    by_cases z:es.size<=1
    ·exact z
    ·refine absurd ?_ h
     rw[aaW]
     refine⟨?_,?_⟩
     ·show(!(w.params.followText "set-order"))=true
      rw[hb];rfl
     ·show(!t.plain&&decide (es.size>1))=true
      rw[qP (by omega)]
      simp;omega
   refine .inr (.inl ⟨rfl,Pm,by rw[hl,hb];rfl,0,YK _ rfl,?_⟩)
   have hpl2:t.place.size=es.size:=by
    simp only [SetTable.fits,aaW,abN] at hf
    exact hf.1
   by_cases z:es.size=0
   ·have:t.place=#[]:=Array.eq_empty_of_size_eq_zero (by omega)
    rw[this];rfl
   ·have vJ:t.place=#[t.place[0]'(by omega)]:=by
     apply Array.ext
     ·simp;omega
     ·intro j h1 h2
      have:j=0:=by omega
      subst this
      rfl
    exact(Bc vJ).1
theorem JF{w:World}{a:Addr}{es:Array (Int×Value)}{ep:Nat}{ds:List Nat}{acc:Array Value}(hp:ds.Perm (List.range es.size))(HI:∀e∈es.toList,PX w e)(ha:ItemsOf (λi v=>∃e,(qR w a es ep ds)[i]?=some e/\v=e.2) acc es.size) :
  StrsAre acc.toList ((qR w a es ep ds).map λe=>strOf e.2):=by
 have hlen:(qR w a es ep ds).length=es.size:=by rw[(si hp).length_eq,aaB]
 have e:acc.toList=(qR w a es ep ds).map λe=>e.2:=by
  refine acm λk=>?_
  rw[YI,aaL]
  cases hq:acc[k]? with
  | none=>
   have:=Array.getElem?_eq_none_iff.mp hq
   rw[aci (by rw[hlen,<-ha.1];exact this)]
   rfl
  | some v=>
   obtain⟨e,he,hv⟩:=ha.2 k v hq
   rw[he,hv]
   rfl
 rw[e]
 have:=strsAre_map ((qR w a es ep ds).map λe=>e.2) λv hv=>by
  obtain⟨e,he,rfl⟩:=List.mem_map.mp hv
  obtain⟨y,t,rfl⟩:=HI e ((si hp).mem_iff.mp he)
  exact⟨y,t,rfl⟩
 rwa [List.map_map] at this
theorem Ce{a:Addr}{xs:List Str}{Q:List Value->Shared->Prop}(hh:A.handled=none)(hS:kJ w s.heap a xs (vH w))(ZR:xs.length<=sizeLine)
  (hQ:∀vs ys h' tk d,StrsAre vs ys->ys.Perm xs->s.heap.objs.size<h'.objs.size->(∀b o,s.heap.get? b=some o->h'.get? b=some o)->Q vs {s with heap:=h',toks:=tk,drawn:=d}):wpAny (model prog w) A (collect (.ref a)) Q E s:=by
 have j9:a<s.heap.objs.size:=by obtain⟨o,_,_,_,ho,_⟩:=hS;exact aak ho
 unfold collect
 refine Ph (wpAny_runValue (abM PySem.F.entry_proto_collect ?_))
 rw[abo PySem.F.plain_proto_collect _]
 show wpAny _ A.in1 (newList [] >>= λl=>again (.builtin "list.__iadd__" ⟨[l,.ref a],[]⟩)) _ _ s
 refine Ph (aa_ ?_)
 refine R8 ⟨ab6 PySem.F.plain_list_iadd _,abM PySem.F.entry_list_iadd ?_⟩
 rw[abo PySem.F.plain_list_iadd _]
 have VZ:(s.heap.push {cls:=.type "list",data:=.seq ([]:List Value).toArray}).get? s.heap.objs.size=some {cls:=.type "list",data:=.seq ([]:List Value).toArray}:=YK _ rfl
 have ZS:(s.heap.push {cls:=.type "list",data:=.seq ([]:List Value).toArray}).objs.size=s.heap.objs.size+1:=aby _ _
 have k1:∀b o,s.heap.get? b=some o->(s.heap.push {cls:=.type "list",data:=.seq ([]:List Value).toArray}).get? b=some o:=λb o e=>Ve _ e
 have hT:Shared.TypeIs {s with heap:=s.heap.push {cls:=.type "list",data:=.seq ([]:List Value).toArray}} (.ref a) "set":=by
  obtain⟨o,_,_,_,ho,hx,_⟩:=hS
  exact⟨o,k1 _ _ ho,hx.1⟩
 show wpAny _ A.in1 (Builtin.List.listExtendWith (.ref s.heap.objs.size) (.ref a) (.ref s.heap.objs.size)) _ _ _
 unfold Builtin.List.listExtendWith
 refine Ph (wpAny_typeOf hT ?_)
 have h1:Builtin.List.listSameRef (.ref s.heap.objs.size) (.ref a)=false:=by
  unfold Builtin.List.listSameRef
  simp only [abt]
  exact ab1 j9
 rw[aac (by rw[h1];decide)]
 refine Ph (JE hh (hS.at λo e=>k1 a o e) ZR λh2 d it r es ep t ds hit hr k2 hf Qg ha hri HI hp hw=>?_)
 have hT2:Shared.TypeIs {s with heap:=h2,drawn:=d} (.ref a) "set":=by
  obtain⟨⟨o,ho,hx,_⟩,_⟩:=hw
  exact⟨o,ho,hx.1⟩
 have Mi:s.heap.objs.size∉[it,a,r]:=by
  rw[ZS] at hit hr
  simp only [V9,ab9,or_false,not_or]
  refine⟨aaD hit,ab1 j9,?_⟩
  rcases hr with rfl|z
  ·exact ab1 j9
  ·exact aaD z
 have hn:es.size=xs.length:=by rw[<-hp.length_eq,QU,aaB]
 have W:=(Hr (prog:=prog) (w:=w) (ep:=ep) (show A.in1.handled=none from hh) hf Qg ha hri)
 have key:∀h3 c,Way w h3 it a r es ep t ds 0->(∀b o,s.heap.get? b=some o->h3.get? b=some o)->h3.get? s.heap.objs.size=some {cls:=.type "list",data:=.seq #[] c}->
   codeAny (model prog w) A (.builtin "list.extend.loop" ⟨[.ref s.heap.objs.size,.ref it,.ref s.heap.objs.size],[]⟩) (λr s'=>match r with
    | .ok (.ret v)=>wpAny (model prog w) A (match v with|.ref a=>(do let o <-load a;match o.data with|.seq xs _=>pure xs.toList|_=>unsupported "internal:collect")|_=>unsupported "internal:collect") Q E s'
    | .ok _=>False
    | .error e=>E e s') {s with heap:=h3,drawn:=d}:=λh3 c hw3 k3 hS3=>by
  refine codeAny_extend_loopS W.toS (by omega) s.heap.objs.size Mi _ es.size 0 _ #[] c rfl (aaI _) hw3 hS3 (ItemsOf.nil _) λs' JZ c' hm Kx tf=>?_
  show wpAny _ A (load s.heap.objs.size >>= _) _ _ _
  refine Ph (wpAny_load Kx ?_)
  obtain⟨h',g',d',Xf,RD⟩:=s'
  have eg:g'=s.gens:=hm.gens
  have ed:d'=d:=hm.drawn
  have eo:RD=s.os:=hm.os
  subst eg;subst ed;subst eo
  refine R8 (hQ _ _ h' Xf d' (JF Qg HI tf) (((si Qg).map _).trans hp) (aak Kx) λb o e=>?_)
  have hb:=aak e
  rw[ZS] at hit
  refine hm.heap b o ?_ (k3 _ _ e)
  simp only [V9,ab9,or_false,not_or]
  exact⟨aaD hb,aaD (aaw (ack hb) hit)⟩
 refine Ph (aa9 (IE hT2 ?_))
 have MU:=k2 _ _ VZ
 refine abi (λ_=>?_) (λ_=>R8 ⟨ab6 abT _,key h2 0 hw (λb o e=>k2 _ _ (k1 _ _ e)) MU⟩)
 refine Ph (wpAny_rule ?_)
 refine Ph ?_
 show wpAny _ _ (updateSeq s.heap.objs.size (·.push .none) >>= λ_=>updateSeq s.heap.objs.size (·.pop)) _ _ _
 refine Ph (wpAny_updateSeq MU rfl ?_)
 have RU:=aaS (Obj.mapSeq (·.push Value.none)) MU rfl
 refine wpAny_updateSeq (hz:=by seq_fits) RU rfl ?_
 have V0:=aaS (Obj.mapSeq (·.pop)) RU rfl
 have ne:∀b o,b≠s.heap.objs.size->h2.get? b=some o->((h2.update s.heap.objs.size (Obj.mapSeq (·.push Value.none))).update s.heap.objs.size (Obj.mapSeq (·.pop))).get? b=some o:=λb o hb e=>
  (abf _ _ (abE hb)).trans ((abf _ _ (abE hb)).trans e)
 exact R8 ⟨ab6 abT _,key _ _ (W.frame 0 _ _ hw λb hb o e=>ne b o (λz=>Mi (z▸hb)) e) (λb o e=>ne b o (aaD (aak e)) (k2 _ _ (k1 _ _ e))) V0⟩
theorem D3{a:Addr}{xs:List Str}{Q:Qqq}(hh:A.handled=none)(hS:kJ w s.heap a xs (vH w))(h64:xs.length<64)
  (hQ:∀(L:Addr) h' tk d vs zs c,s.heap.objs.size<=L->(∀b o,s.heap.get? b=some o->h'.get? b=some o)->h'.get? L=some {cls:=.type "list",data:=.seq vs c}->StrsAre vs.toList zs->zs.Perm xs->sortedS zs=true->Q (.ref L) {s with heap:=h',toks:=tk,drawn:=d}) :
  wpAny (model prog w) A (call (.builtin "sorted") [.ref a]) Q E s:=by
 refine Calls.call_function_entry kind_sorted plain_sorted entry_sorted (args_sorted1 _) ?_
 unfold Builtin.«sorted»
 refine Ph (m:=checkCount "sorted" 1 1 _) (R8 ?_)
 refine Ph (Ce (A:=A.in1) hh hS (by rw[acr];omega) λvs ys h1 tk d hv hp j9 k1=>?_)
 have Qh:vs.length=xs.length:=by rw[StrsAre.length hv,hp.length_eq]
 refine Ph (wpAny_newList ?_ (by rw[acr];omega))
 have RB:(h1.push (seqObj "list" vs.toArray 0)).get? h1.objs.size=some (seqObj "list" vs.toArray 0):=YK _ rfl
 refine Ph (aa9 (aa8 slot_list_sort ⟨_,RB,rfl⟩ entry_list_sort (list_sort_treeK strKind_oneLt (vs:=vs) RB hv.keysOf (λv1 v2 rest e=>keyKind_strs (by rw[<-e];exact hv)) (by omega) λwO a1 a2=>⟨_,rfl,?_⟩) (args_list_sort _)))
 obtain⟨c,hc⟩:=sortedHeap_at (out:=Array.map (λx=>x.snd) (arrOf wO)) RB
 obtain⟨zs,z1,z2,z3⟩:=sorted_out_str hv a1 a2
 refine R8 ⟨_,rfl,hQ h1.objs.size _ tk d _ zs c (Nat.le_of_lt j9) (λb o e=>?_) hc z1 (z2.trans hp) z3⟩
 have hb:b<h1.objs.size:=aak (k1 b o e)
 rw[sortedHeap_old (aaD hb) (aaw hb (by show h1.objs.size<=(h1.push _).objs.size;rw[aby];exact ab2 _))]
 exact Ve _ (k1 b o e)
end
def sx(a b:Str):Bool:=ltCps a.cps.toList b.cps.toList
theorem MK(a b:Str):sx a b=decide (a.cps.toList<b.cps.toList):=ltCps_eq _ _
theorem JG{a b:Str}(h1:sx a b=false)(h2:sx b a=false):a=b:=by
 rw[MK] at h1 h2
 have:a.cps.toList=b.cps.toList:=PyProof.Rows.strKind.total _ _ h1 h2
 cases a;cases b
 exact aaQ Str.mk (Array.toList_inj.mp this)
theorem Rp{a b c:Str}(h1:sx a b=true)(h2:sx b c=true):sx a c=true:=by
 rw[MK] at h1 h2 ⊢
 exact PyProof.Rows.strKind.trans _ _ _ h1 h2
theorem Rq{a b c:Str}(h1:sx b a=false)(h2:sx c b=false):sx c a=false:=by
 cases h:sx c a with
 | false=>rfl
 | true=>
  cases h3:sx a b with
  | false=>rw[JG h3 h1] at h;rw[h] at h2;exact h2
  | true=>rw[Rp h h3] at h2;exact h2
abbrev ML(zs:List Str):Prop:=zs.Pairwise λa b=>sx b a=false
theorem zD:∀(p:Str)(l:List Str),risingS p l=true->(p::l).Pairwise λa b=>sx b a=false
 | p,[],_=>by simp
 | p,x::r,h=>by
  have h':(!ltCps x.cps.toList p.cps.toList&&risingS x r)=true:=h
  rw[aaW] at h'
  have h1:sx x p=false:=by simpa[sx] using h'.1
  have ih:=zD x r h'.2
  refine List.pairwise_cons.mpr ⟨λy hy=>?_,ih⟩
  rcases V9.mp hy with rfl|hy
  ·exact h1
  ·exact Rq h1 (List.rel_of_pairwise_cons ih hy)
theorem zE:∀{l:List Str},sortedS l=true->ML l
 | [],_=>.nil
 | x::r,h=>zD x r h
theorem JH{x y:List Str}(hx:ML x)(hy:ML y)(nx:x.Nodup)(ny:y.Nodup)(h:∀z,z∈x↔z∈y):x=y:=
 List.Perm.eq_of_pairwise (le:=λa b=>sx b a=false) (λa b _ _ h1 h2=>JG h2 h1) hx hy ((List.perm_ext_iff_of_nodup nx ny).mpr λz=>h z)
theorem Fc{x:List Str}(h:ML x)(p:Str->Bool):ML (x.filter p):=List.Pairwise.filter p h
section
variable{X:Cx}
theorem wK:∀{xs:List Str} {us:List Value},Vals (xs.map V.str) us->StrsAre us xs
 | [],_,.nil=>.nil
 | x::xs,_,.cons r t=>by
  obtain⟨tk,rfl⟩:=r
  exact .cons x tk (wK t)
theorem wL:∀{xs:List Str} {us:List Value},StrsAre us xs->Vals (xs.map V.str) us
 | _,_,.nil=>.nil
 | _,_,.cons x t r=>.cons ⟨t,rfl⟩ (wL r)
theorem Inv.drew{b_:Qqz}{Z:St}{H:Hp}{s:Shared}(I:Inv X b_ Z H s)(d:Drawn):Inv X b_ Z H {s with drawn:=d}:=
 ⟨I.ok,I.os,I.bare,I.base,I.loc,I.cell,I.free,I.oj,I.pin,I.iC,I.len⟩
def OH(K:Qqy)(ta:TA):TE:=λZ H Q=>ta Z H λvs H1=>∃a,∃xs:List Str,vs=[.ref a]/\h_ K H1 a (xs.map V.str)/\xs.length<63/\∀p,∀zs:List Str,H1 p=none->ML zs->zs.Nodup->(∀y,y∈zs↔y∈xs)->zs.length<=xs.length->Q (.ref p) (upd H1 p (.lst (zs.map V.str)))
theorem Fd{a:Expr}{ta:TA}{p1 p2 OZ Ck:Pos}(hc:X.calm=true)(MW:Gl X "sorted")(RW:X.mg "sorted"=none)(hg:Gl X "set")(hm:X.mg "set"=none)(ha:PA X [a] ta)(hs:starEach [a] X.env=[(false,eval a X.env)]:=by rfl)
  (RX:starEach [.Call (.Name "set" p2) [a] [] Ck] X.env=[(false,eval (.Call (.Name "set" p2) [a] [] Ck) X.env)]:=by rfl):PE X (.Call (.Name "sorted" p1) [.Call (.Name "set" p2) [a] [] Ck] [] OZ) (OH X.K ta):=by
 intro b_ s Z H Q I h
 have hh:=I.ok.hd hc
 refine Call_ (lT I MW RW boot_sorted (PyProof.Rows.callWith_builtin1 ?_ RX rfl))
 rw[RX]
 refine abd ?_
 refine Call_ (lT I hg hm boot_set (aaN (iX (ha Ck b_ s Z H _ I h) λus s1 ⟨vs,H1,I1,r1,q1⟩=>?_) hs rfl))
 obtain⟨l,xs,rfl,hq,hn,q⟩:=q1
 obtain⟨u,rfl,ru⟩:=vals1 r1
 cases (show u=Value.ref l from ru)
 obtain⟨ib,rv,pp,hz⟩:=I1.list hq
 have hS:=wK rv
 have hl:=StrsAre.length hS
 refine Ho (ss:=xs) hh pp.isList (by simpa using hS) (by rw[aaa];unfold scanBound;omega) λh' tk S8 k1=>abw ?_
 obtain⟨f1,f2,f3⟩:=JC (xs.take ib.toArray.size) []
 have et:xs.take ib.toArray.size=xs:=aca (by rw[aaa];omega)
 have j9:s1.heap.objs.size<h'.objs.size:=by obtain⟨o,_,_,_,ho,_⟩:=S8;exact aak ho
 have Gr:(zB xs ib.toArray.size).length<=xs.length:=by rw[et] at f1;unfold zB;rw[et];simpa using f1
 refine D3 (s:={s1 with heap:=h',toks:=tk}) hh S8 (by omega) λL h2 tk2 d vs zs c hL k2 hLl z1 z2 z3=>?_
 have hsz:s1.heap.objs.size<=L:=aao (Nat.le_of_lt j9) hL
 have zl:zs.length<=xs.length:=by rw[z2.length_eq];exact Gr
 refine⟨.ref L,upd H1 L (.lst (zs.map V.str)),(I1.laid (t':=tk2) (h':=h2) (λb o e=>k2 b o (k1 b o e)) hsz ?_).drew d,rfl,q _ _ (I1.iC.fresh hsz) (zE z3) (z2.nodup_iff.mpr (f3 abh)) (λy=>?_) zl⟩
 ·exact⟨by rw[QU,acr];omega,vs.toList,c,wL z1,by rw[abV];exact hLl⟩
 ·rw[z2.mem_iff,f2,et];simp
theorem D5:qE X (.builtin "sorted") (λxs H Q=>∃p,∃ys:List Str,xs=[.ref p]/\h_ X.K H p (ys.map V.str)/\ys.length<64/\∀l,∀zs:List Str,H l=none->zs.Perm ys->ML zs->Q (.ref l) (upd H l (.lst (zs.map V.str)))):=by
 intro b_ s Z H xs us Q I r h
 obtain⟨a,ys,rfl,hq,h64,q⟩:=h
 obtain⟨u,rfl,ru⟩:=vals1 r
 cases (show u=Value.ref a from ru)
 obtain⟨ib,rv,pp,hz⟩:=I.list hq
 have hS:=wK rv
 have hl:=StrsAre.length hS
 refine sorted_strs (vs:=ib) pp.isList hS (by omega) λout ZT a1 a2 a3=>?_
 obtain⟨c,hc⟩:=sortedAll_at s.heap ib out
 refine⟨.ref (s.heap.objs.size+1),upd H (s.heap.objs.size+1) (.lst (ZT.map V.str)),I.laid (t':=s.toks) (λb o e=>sortedAll_old e) (ab2 _) (show iR X.prog X.w _ _ _ (.lst (ZT.map V.str)) from ⟨by rw[QU,a2.length_eq];rw[acr];omega,out.toList,c,wL a1,by rw[abV];exact hc⟩),rfl,?_⟩
 exact q _ _ (I.iC.fresh (ab2 _)) a2 (zE a3)
end
end L2
namespace PM
open PySem (Str)
open Dk
theorem D6{D:Dk}{s:Str}{p:Pt}(hp:p.nm∉D.names):D.made.filter (λq=>decide (q.nm∈(D.keep s p).held s))=D.kc s:=by
 unfold kc
 refine List.filter_congr λq hq=>?_
 rw[decide_eq_decide]
 show q.nm∈(if s=s then D.held s++[p.nm] else D.held s)↔_
 rw[aag rfl,YD,Sd]
 exact⟨λz=>z.resolve_right λe=>hp (e▸Vi hq),.inl⟩
theorem D7{D:Dk}{s:Str}{p:Pt}(hp:p.nm∉D.names):(D.keep s p).kc s=D.kc s++[p]:=by
 rw[<-D6 (s:=s) hp]
 unfold kc
 show(D.made++[p]).filter _=_
 rw[aaH]
 congr 1
 have:decide (p.nm∈(D.keep s p).held s)=true:=by
  rw[abe]
  show p.nm∈(if s=s then D.held s++[p.nm] else D.held s)
  rw[aag rfl];simp
 rw[aco,aag this];rfl
theorem Gg{D:Dk}(I:Inv D){s f:Str}(h:∀p∈D.made,p.file≠some f):D.row s f=[]:=by
 cases e:D.row s f with
 | nil=>rfl
 | cons l r=>
  obtain⟨p,hp,hf,_⟩:=I.sC (s:=s) (f:=f) (l:=l) (by rw[e];exact aae)
  exact absurd hf (h p (aah.mp hp).1)
theorem Be{ps:List Pt}{p:Pt}(ho:p.other=none):live (ps++[p])=live ps++[p]:=by
 unfold live
 rw[List.reverse_append]
 show(mZ (p::ps.reverse) []).reverse=_
 rw[show mZ (p::ps.reverse) []=if p.nm∈([]:List Str) then mZ ps.reverse [] else p::mZ ps.reverse (match p.other with|some o=>o::[]|none=>[]) from rfl,aac (by simp),ho,acn]
theorem LX{D:Dk}(I:Inv D){p:Pt}(hp:p∈D.made){n:Nm}(hn:n∈p.jx):n.1∈D.names:=by
 have h1:n.1∈iz p:=aan _ (Vi (aah.mpr ⟨aan _ hn,V7 (I.I_ p hp n hn)⟩))
 obtain⟨i,hi⟩:=aaT.mp hp
 have h2:=I.before i p hi n.1 ((I.need p hp n.1).mpr ⟨n.1,h1,.inl rfl⟩)
 obtain⟨q,hq,e⟩:=List.mem_map.mp h2
 exact e▸Vi (List.mem_of_mem_take hq)
theorem Hs{lt:Nm->Nm->Prop}{rk:Nm->Nat}(hr:∀m n,lt m n->rk m<rk n){ls R:List Ln}(nd:(ls.map (·.nm)).Nodup)(hp:R.Perm ls)(hc:R.Pairwise λa b=>lt a.nm b.nm):rowOf lt ls=R:=by
 have pm:=yY hr nd
 refine List.Perm.eq_of_pairwise (le:=λa b=>lt a.nm b.nm) (λa b _ _ h1 h2=>?_) ?_ hc (pm.trans hp.symm)
 ·have:=hr _ _ h1
  have:=hr _ _ h2
  omega
 ·have J3:(rowOf lt ls).Pairwise λa b=>a.nm≠b.nm:=ab0.mp ((pm.map _).nodup_iff.mpr nd)
  have tot:∀a∈R,∀b∈R,a.nm≠b.nm->lt a.nm b.nm\/lt b.nm a.nm:=λa ha b hb ne=>by
   obtain⟨i,hi,rfl⟩:=List.mem_iff_getElem.mp ha
   obtain⟨j,hj,rfl⟩:=List.mem_iff_getElem.mp hb
   have hp:=aa2.mp hc
   rcases Nat.lt_trichotomy i j with z|z|z
   ·exact .inl (hp i j hi hj z)
   ·subst z;exact absurd rfl ne
   ·exact .inr (hp j i hj hi z)
  refine((BA hr nd).and J3).imp_of_mem λha hb h=>?_
  exact(tot _ ((pm.trans hp.symm).subset ha) _ ((pm.trans hp.symm).subset hb) h.2).resolve_right h.1
open Classical in
theorem Fe{lt:Nm->Nm->Prop}{row:List Ln}(h:row.Pairwise λa b=>lt a.nm b.nm):kl lt row=[]:=by
 unfold kl
 rw[List.flatMap_eq_nil_iff]
 intro i hi
 rw[List.map_eq_nil_iff,List.filter_eq_nil_iff]
 intro j hj z
 have z:¬ltAt lt row i j:=aau z
 apply z
 have hi:=List.mem_range.mp hi
 obtain⟨k,hk,e⟩:=List.mem_range'.mp hj
 have hj:j<row.length:=by omega
 exact⟨row[i],row[j],R7 hi,R7 hj,aa2.mp h i j hi hj (by omega)⟩
noncomputable def og(row:List Ln):List (Nat×Nat)->Nat->Option Ln
 | [],_=>none
 | q::r,s=>if q.2=s then row[q.1]? else og row r s
theorem Rr(row:List Ln)(qs:List (Nat×Nat)):lO row qs=λs=>(og row qs s).map (·.nm):=by
 funext s
 induction qs with
 | nil=>rfl
 | cons q r ih=>
  unfold lO og
  split
  ·rfl
  ·exact ih
theorem zF{row:List Ln}{qs:List (Nat×Nat)}{s:Nat}{l:Ln}(h:og row qs s=some l):∃q∈qs,q.2=s/\row[q.1]?=some l:=by
 induction qs with
 | nil=>cases h
 | cons q r ih=>
  unfold og at h
  by_cases e:q.2=s
  ·rw[aag e] at h
   exact⟨q,aae,e,h⟩
  ·rw[aac e] at h
   obtain⟨q',hq,z⟩:=ih h
   exact⟨q',YE _ hq,z⟩
theorem MM{row:List Ln}{m:Nat}:∀{qs:List (Nat×Nat)},Dh row.length m qs->∀q∈qs,og row qs q.2=row[q.1]?
 | [],_,q,hq=>by cases hq
 | q'::r,h,q,hq=>by
  have hr:Dh row.length m r:=⟨(List.pairwise_cons.mp h.1).2,λx hx=>h.2 x (YE _ hx)⟩
  unfold og
  rcases V9.mp hq with e|hq
  ·rw[e,aag rfl]
  ·have:=(List.pairwise_cons.mp h.1).1 q hq
   rw[aac (by omega)]
   exact MM hr q hq
section
variable(p:Str)(ln:Nat->Option Ln)
noncomputable def mg:Nat->Nat->Option Nm->List Str->List Ln
 | _,_,_,[]=>[]
 | i,j,u,t::r=>match ln i with
  | some l=>l::mg (i+1) j (some l.nm) r
  | none=>⟨(p,j),t,u,EO (λs=>(ln s).map (·.nm)) r.length i⟩::mg (i+1) (j+1) (some (p,j)) r
noncomputable abbrev LY(i j:Nat)(u:Option Nm)(r:List Str):List Ln:=p7 p (λs=>(ln s).map (·.nm)) i j u r
variable{p ln}
theorem sP{i j:Nat}{u:Option Nm}{t:Str}{r:List Str}{l:Ln}(h:ln i=some l):mg p ln i j u (t::r)=l::mg p ln (i+1) j (some l.nm) r/\LY p ln i j u (t::r)=LY p ln (i+1) j (some l.nm) r:=by
 constructor
 ·rw[mg,h]
 ·unfold LY
  rw[p7]
  simp only [h,abJ]
theorem sQ{i j:Nat}{u:Option Nm}{t:Str}{r:List Str}(h:ln i=none):mg p ln i j u (t::r)=⟨(p,j),t,u,EO (λs=>(ln s).map (·.nm)) r.length i⟩::mg p ln (i+1) (j+1) (some (p,j)) r/\LY p ln i j u (t::r)=⟨(p,j),t,u,EO (λs=>(ln s).map (·.nm)) r.length i⟩::LY p ln (i+1) (j+1) (some (p,j)) r:=by
 constructor
 ·rw[mg,h]
 ·unfold LY
  rw[p7]
  simp only [h,Option.map_none]
theorem JI:∀(r:List Str)(i j:Nat)(u:Option Nm),(∀k l,ln (i+k)=some l->k<r.length->r[k]?=some l.tx)->(mg p ln i j u r).map (·.tx)=r
 | [],_,_,_,_=>rfl
 | t::r,i,j,u,h=>by
  have hr:∀k l,ln (i+1+k)=some l->k<r.length->r[k]?=some l.tx:=λk l e hk=>by
   have:=h (k+1) l (by rw[<-e];congr 1;omega) (by rw[W7];omega)
   rwa [List.getElem?_cons_succ] at this
  cases e:ln i with
  | some l=>
   rw[(sP e).1,aat,JI r (i+1) j _ hr]
   have:=h 0 l e (by rw[W7];omega)
   rw[List.getElem?_cons_zero] at this
   rw[<-aal this]
  | none=>rw[(sQ e).1,aat,JI r (i+1) (j+1) _ hr]
theorem Ff{l:Ln}:∀(r:List Str)(i j:Nat)(u:Option Nm),l∈mg p ln i j u r↔(∃k,k<r.length/\ln (i+k)=some l)\/l∈LY p ln i j u r
 | [],_,_,_=>⟨λh=>(by cases h),λh=>h.elim (λ⟨k,hk,_⟩=>absurd hk (Nat.not_lt_zero _)) λh=>(by cases h)⟩
 | t::r,i,j,u=>by
  have sh:(∃k,k<(t::r).length/\ln (i+k)=some l)↔ln i=some l\/∃k,k<r.length/\ln (i+1+k)=some l:=by
   constructor
   ·rintro⟨k,hk,e⟩
    cases k with
    | zero=>exact .inl e
    | succ k=>exact .inr ⟨k,by rw[W7] at hk;omega,by rw[<-e];congr 1;omega⟩
   ·rintro(e|⟨k,hk,e⟩)
    ·exact⟨0,by rw[W7];omega,e⟩
    ·exact⟨k+1,by rw[W7];omega,by rw[<-e];congr 1;omega⟩
  rw[sh]
  cases e:ln i with
  | some l'=>
   rw[(sP e).1,(sP e).2,V9,Ff r (i+1) j,Option.some_inj,or_assoc]
   exact⟨λh=>h.imp (λz=>z.symm) id,λh=>h.imp (λz=>z.symm) id⟩
  | none=>
   rw[(sQ e).1,(sQ e).2,V9,V9,Ff r (i+1) (j+1)]
   exact⟨λh=>h.elim (λz=>.inr (.inl z)) λz=>z.elim (λz=>.inl (.inr z)) λz=>.inr (.inr z),λh=>h.elim (λz=>z.elim (λz=>(by cases z)) λz=>.inr (.inl z)) λz=>z.elim .inl λz=>.inr (.inr z)⟩
theorem zG{LN:List Ln}(hk:∀s t a b,ln s=some a->ln t=some b->s<t->Ah LN a.nm b.nm):∀(r:List Str)(i j:Nat)(u:Option Nm),(∀l∈LY p ln i j u r,l∈LN)->
  (∀m,u=some m->(∃s l,s<i/\ln s=some l/\l.nm=m)\/∃l'∈LN,l'.nm=m/\∀b,ln i=some b->r≠[]->l'.lo=some b.nm)->
  (∀l∈mg p ln i j u r,∀m,u=some m->Ah LN m l.nm)/\(mg p ln i j u r).Pairwise λa b=>Ah LN a.nm b.nm
 | [],_,_,_,_,_=>⟨λl hl=>(by cases hl),List.Pairwise.nil⟩
 | t::r,i,j,u,hl,hu=>by
  cases e:ln i with
  | some l=>
   rw[(sP e).2] at hl
   rw[(sP e).1]
   have hd:∀m,u=some m->Ah LN m l.nm:=λm hm=>by
    rcases hu m hm with⟨s,l',hs,h1,rfl⟩|⟨l',h1,rfl,h2⟩
    ·exact hk s i l' l h1 e hs
    ·exact .one ⟨l',h1,.inr ⟨rfl,h2 l e (by simp)⟩⟩
   obtain⟨h1,h2⟩:=zG hk r (i+1) j (some l.nm) hl λm hm=>.inl ⟨i,l,by omega,e,aal hm⟩
   refine⟨λo ho m hm=>?_,List.Pairwise.cons (λo ho=>h1 o ho _ rfl) h2⟩
   rcases V9.mp ho with rfl|ho
   ·exact hd m hm
   ·exact(hd m hm).trans (h1 o ho _ rfl)
  | none=>
   rw[(sQ e).2] at hl
   rw[(sQ e).1]
   have hn:=hl _ aae
   have hd:∀m,u=some m->Ah LN m (p,j):=λm hm=>.one ⟨_,hn,.inl ⟨rfl,hm⟩⟩
   obtain⟨h1,h2⟩:=zG hk r (i+1) (j+1) (some (p,j)) (λo ho=>hl o (YE _ ho)) λm hm=>.inr ⟨_,hn,aal hm,λb hb hr=>by
    show EO _ r.length i=some b.nm
    cases r with
    | nil=>exact absurd rfl hr
    | cons t' r'=>
     rw[W7,EO]
     simp only [hb,abJ]⟩
   refine⟨λo ho m hm=>?_,List.Pairwise.cons (λo ho=>h1 o ho _ rfl) h2⟩
   rcases V9.mp ho with rfl|ho
   ·exact hd m hm
   ·exact(hd m hm).trans (h1 o ho _ rfl)
end
def tr(l:Ln):Str×Nat×Str:=(l.nm.1,l.nm.2,l.tx)
section
variable{D:Dk}{s f x:Str}
structure Rt(D D':Dk)(s f x:Str)(texts:List Str):Prop where
 tx:(D'.row s f).map (·.tx)=texts
 qu:D'.sV s f=[]
 row:D'.row s f=mg x (og (D.row s f) (K01.kept ((D.row s f).map (·.tx)) texts)) 0 0 none texts
theorem JJ(I:Inv D)(hs:s∈D.stores)(fresh:x∉D.names)(hq:D.sV s f=[])(texts:List Str):Rt D (D.keep s (iU x f (D.row s f) texts)) s f x texts:=by
 have I2:=I.record hs fresh hq texts
 have rise:=nG ((D.row s f).map (·.tx)) texts
 rw[QU] at rise
 generalize eqs:K01.kept ((D.row s f).map (·.tx)) texts=qs at rise
 have rel:∀q∈qs,∃l,(D.row s f)[q.1]?=some l/\texts[q.2]?=some l.tx:=by
  have g:=K01.wa ((D.row s f).map (·.tx)) texts
  rw[eqs] at g
  have key:∀{i j qs},K01.Good ((D.row s f).map (·.tx)) texts i j qs->∀q∈qs,∃l,(D.row s f)[q.1]?=some l/\texts[q.2]?=some l.tx:=by
   intro i j qs g
   induction g with
   | nil=>intro q hq;cases hq
   | @cons i j p q r h1 h2 a e1 e2 h3 t ih=>
    intro z hz
    rcases V9.mp hz with rfl|hz
    ·rw[YI] at e1
     obtain⟨l,hl,e⟩:=Option.map_eq_some_iff.mp e1
     exact⟨l,hl,by rw[e];exact e2⟩
    ·exact ih z hz
  exact key g
 have rowL:∀l∈D.row s f,l∈gk (D.kc s) f:=λl hl=>(jB _ f).subset ((I.lD s f).subset hl)
 have old:∀l∈D.row s f,l.nm.1≠x:=λl hl e=>by
  obtain⟨p,hp,_,h3⟩:=I.sC hl
  exact fresh (by rw[<-e,mJ (I.AY p (aah.mp hp).1) (Vi h3)];exact Vi (aah.mp hp).1)
 generalize ep:iU x f (D.row s f) texts=p at I2
 have ZU:p.nm=x:=by rw[<-ep];rfl
 have ZV:p.iF=LY x (og (D.row s f) qs) 0 0 none texts:=by
  rw[<-ep]
  show ko x texts (lO (D.row s f) (K01.kept ((D.row s f).map (·.tx)) texts))=_
  rw[eqs,Rr];rfl
 have Xi:p.jx=((D.row s f).filter λl=>l.nm∉p6 (D.row s f) qs).map (·.nm):=by
  rw[<-ep,<-eqs];rfl
 have ZW:p.file=some f:=by rw[<-ep];rfl
 have pot:p.other=none:=by rw[<-ep];rfl
 have S9:∀l∈p.iF,l.nm.1=x:=λl hl=>by
  have h:=I2.AY p (by show p∈D.made++[p];simp)
  rw[<-ZU]
  exact mJ h (Vi hl)
 have e2:(D.keep s p).kc s=D.kc s++[p]:=D7 (by rw[ZU];exact fresh)
 have lp:gk (D.kc s++[p]) f=gk (D.kc s) f++p.iF:=by
  unfold gk
  rw[aaH,aa3,aco,aag (by rw[abe];exact ZW)]
  simp
 let R:=mg x (og (D.row s f) qs) 0 0 none texts
 have lnR:∀k l,og (D.row s f) qs k=some l->l∈D.row s f:=λk l h=>by
  obtain⟨q,_,_,h2⟩:=zF h
  exact Xj h2
 have ch:R.Pairwise λa b=>Ah (gk (D.kc s) f++p.iF) a.nm b.nm:=by
  have c0:=Inv.chain hq
  refine(zG (LN:=gk (D.kc s) f++p.iF) (λa b l l' h1 h2 Cj=>?_) texts 0 0 none (λl hl=>aaG _ (by rw[ZV];exact hl)) (λm h=>by cases h)).2
  obtain⟨q1,m1,e1,r1⟩:=zF h1
  obtain⟨q2,m2,e2,r2⟩:=zF h2
  have j9:q1.1<q2.1:=by
   obtain⟨i,hi,ei⟩:=List.mem_iff_getElem.mp m1
   obtain⟨j,hj,ej⟩:=List.mem_iff_getElem.mp m2
   have hp:=aa2.mp rise.1
   rcases Nat.lt_trichotomy i j with z|z|z
   ·have:=hp i j hi hj z;rw[ei,ej] at this;exact this.1
   ·subst z;rw[ei] at ej;subst ej;omega
   ·have:=hp j i hj hi z;rw[ei,ej] at this;omega
  obtain⟨g1,w1⟩:=List.getElem?_eq_some_iff.mp r1
  obtain⟨g2,w2⟩:=List.getElem?_eq_some_iff.mp r2
  have:=aa2.mp c0 _ _ g1 g2 j9
  rw[w1,w2] at this
  exact this.mono λl hl=>aan _ hl
 have left:∀l∈D.row s f,l.nm∈p6 (D.row s f) qs↔∃k,k<texts.length/\og (D.row s f) qs (0+k)=some l:=λl hl=>by
  have nd:((D.row s f).map (·.nm)).Nodup:=((I.lD s f).map _).nodup_iff.mpr (I.ET s f)
  constructor
  ·intro h
   obtain⟨q,hq,e⟩:=abP.mp h
   obtain⟨l',Cm,e⟩:=Option.map_eq_some_iff.mp e
   have:l'=l:=by
    obtain⟨i,hi,ei⟩:=List.mem_iff_getElem.mp (Xj Cm)
    obtain⟨j,hj,ej⟩:=List.mem_iff_getElem.mp hl
    have:=(List.getElem_inj (i:=i) (j:=j) (h₀:=by rw[QU];exact hi) (h₁:=by rw[QU];exact hj) nd).mp (by rw[List.getElem_map,List.getElem_map,ei,ej];exact e)
    subst this
    rw[<-ei,<-ej]
   subst this
   exact⟨q.2,(rise.2 q hq).2,by rw[Nat.zero_add,MM rise q hq];exact Cm⟩
  ·rintro⟨k,_,h⟩
   obtain⟨q,hq,_,h2⟩:=zF h
   exact abP.mpr ⟨q,hq,by rw[h2];rfl⟩
 have mem:∀l,l∈R↔l∈iZ (D.kc s++[p]) f:=λl=>by
  show l∈mg x (og (D.row s f) qs) 0 0 none texts↔_
  rw[Ff]
  unfold iZ
  rw[Be pot]
  have lpl:gk (live (D.kc s)++[p]) f=gk (live (D.kc s)) f++p.iF:=by
   unfold gk
   rw[aaH,aa3,aco,aag (by rw[abe];exact ZW)]
   simp
  have gl:gone (live (D.kc s)++[p])=gone (live (D.kc s))++p.jx:=by
   unfold gone
   rw[aa3];simp
  rw[lpl,gl,aah,YD,abe,YD,<-ZV]
  have Kf:∀l,l∈D.row s f↔l∈gk (live (D.kc s)) f/\l.nm∉gone (live (D.kc s)):=λl=>by
   rw[(I.lD s f).mem_iff]
   unfold iZ
   rw[aah,abe]
  have Mj:∀m∈gone (live (D.kc s)),m.1≠x:=λm hm e=>by
   obtain⟨q,hq,hn⟩:=aa4.mp hm
   exact fresh (e▸LX I (aah.mp ((uP _).subset hq)).1 hn)
  have Pn:∀m∈p.jx,m.1≠x:=λm hm=>by
   rw[Xi] at hm
   obtain⟨l,hl,rfl⟩:=List.mem_map.mp hm
   exact old l (aah.mp hl).1
  constructor
  ·rintro(⟨k,hk,e⟩|h)
   ·have hr:=lnR _ l e
    refine⟨.inl ((Kf l).mp hr).1,λz=>z.elim ((Kf l).mp hr).2 λz=>?_⟩
    rw[Xi] at z
    obtain⟨l',Cm,e'⟩:=List.mem_map.mp z
    exact aau (aah.mp Cm).2 (by rw[e'];exact(left l hr).mpr ⟨k,hk,e⟩)
   ·exact⟨.inr h,λz=>z.elim (λz=>Mj _ z (S9 l h)) λz=>Pn _ z (S9 l h)⟩
  ·rintro⟨h|h,z⟩
   ·have hr:=(Kf l).mpr ⟨h,λw=>z (.inl w)⟩
    refine .inl ((left l hr).mp ?_)
    refine Classical.byContradiction λw=>z (.inr ?_)
    rw[Xi]
    exact Vi (aah.mpr ⟨hr,V7 w⟩)
   ·exact .inr h
 obtain⟨rk,En⟩:=I2.N9 s f
 rw[e2,lp] at En
 have ndR:R.Nodup:=ch.imp λh e=>by rw[e] at h;exact abj _ (En.ah h)
 have O7:=I2.ET s f
 rw[e2] at O7
 have er:(D.keep s p).row s f=R:=by
  unfold Dk.row
  rw[e2,lp]
  exact Hs (rk:=rk) (λm n h=>En.ah h) O7 ((List.perm_ext_iff_of_nodup ndR ((ab0.mp O7).imp λh e=>h (aaQ _ e))).mpr mem) ch
 refine⟨?_,?_,?_⟩
 ·rw[er]
  refine JI texts 0 0 none λk l e hk=>?_
  rw[Nat.zero_add] at e
  obtain⟨q,hq,rfl,h2⟩:=zF e
  obtain⟨l',h3,h4⟩:=rel q hq
  rw[h2] at h3
  rw[aal h3]
  exact h4
 ·unfold Dk.sV
  rw[er,e2,lp]
  exact Fe ch
 ·rw[er,eqs]
end
section
variable{D:Dk}{s t f f' x:Str}
theorem Fg(I:Inv D){l l':Ln}{o:Str}(h:l∈gk (D.kc s) f)(h':l'∈gk (D.kc o) f')(e:l.nm=l'.nm):f=f':=by
 obtain⟨p,hp,hf,hl⟩:=jC.mp h
 obtain⟨p',VP,Qi,Cm⟩:=jC.mp h'
 have hm:=(aah.mp hp).1
 have Ky:=(aah.mp VP).1
 have:=Lr I.nd hm Ky (by rw[<-mJ (I.AY p hm) (Vi hl),<-mJ (I.AY p' Ky) (Vi Cm),e])
 subst this
 rw[hf] at Qi
 exact aal Qi
structure Cg(D:Dk)(s f x:Str)(p:Pt):Prop where
 nm:p.nm=x
 file:p.file=some f
 other:p.other=none
 jx:∀m∈p.jx,m∈(D.row s f).map (·.nm)
theorem Hu(texts:List Str):Cg D s f x (iU x f (D.row s f) texts):=⟨rfl,rfl,rfl,λm hm=>by
 obtain⟨l,hl,rfl⟩:=List.mem_map.mp hm
 exact Vi (aah.mp hl).1⟩
theorem Cg.Fh{p:Pt}(c:Cg D s f x p)(I:Inv D)(fresh:x∉D.names)(hf:f'≠f):(D.keep s p).row s f'=D.row s f'/\(D.keep s p).sV s f'=D.sV s f':=by
 have e2:(D.keep s p).kc s=D.kc s++[p]:=D7 (by rw[c.nm];exact fresh)
 have qt:¬p.file=some f':=λe=>by rw[c.file] at e;exact hf (aal e).symm
 have lp:∀ps:List Pt,gk (ps++[p]) f'=gk ps f':=λps=>by
  unfold gk
  rw[aaH,aa3,aaf (by rw[abe];exact qt)]
  simp
 have st:iZ (D.kc s++[p]) f'=iZ (D.kc s) f':=by
  unfold iZ
  rw[Be c.other,lp]
  refine List.filter_congr λl hl=>?_
  rw[decide_eq_decide]
  have gl:gone (live (D.kc s)++[p])=gone (live (D.kc s))++p.jx:=by
   unfold gone
   rw[aa3];simp
  rw[gl,YD]
  refine⟨λh z=>h (.inl z),λh z=>z.elim h λz=>?_⟩
  obtain⟨l',Cm,e⟩:=List.mem_map.mp (c.jx _ z)
  have h1:l'∈gk (D.kc s) f:=(jB _ f).subset ((I.lD s f).subset Cm)
  have h2:l∈gk (D.kc s) f':=(uQ (uP _) f').subset hl
  exact hf (Fg I h2 h1 e.symm)
 have er:(D.keep s p).row s f'=D.row s f':=by
  unfold Dk.row
  rw[e2,lp,st]
 refine⟨er,?_⟩
 unfold Dk.sV
 rw[er,e2,lp]
end
end PM
namespace K01
variable{Z:Type}[DecidableEq Z]
theorem D8{old new:List Z}{l r p q:Nat}{a:Z}(hl:l<=p)(hr:r<=q)(e1:old[p]?=some a)(e2:new[q]?=some a):1+kU old new (p+1) (q+1)<=kU old new l r:=by
 unfold kU
 have h1:=yh (as:=old.drop (p+1)) hr e2
 have h2:lcs (old.drop p) (new.drop r)<=lcs (old.drop l) (new.drop r):=uN (uO hl) (aaC _)
 rw[kS e1] at h2
 omega
theorem Good.le{old new:List Z}{i j:Nat}{qs:List (Nat×Nat)}(g:Good old new i j qs):qs.length<=kU old new i j:=by
 induction g with
 | nil=>exact aaI _
 | cons h1 h2 a e1 e2 _ _ ih=>
  have:=D8 h1 h2 e1 e2
  rw[W7]
  omega
def Tk(old new:List Z)(l r i j:Nat):Prop:=l<=i/\r<=j/\(∃a,old[i]?=some a/\new[j]?=some a)/\1+kU old new (i+1) (j+1)=kU old new l r
theorem Good.none{old new:List Z}{l r:Nat}(hl:kU old new l r=0)(i j:Nat):¬Tk old new l r i j:=λh=>by
 have:=h.2.2.2
 omega
theorem Good.first{old new:List Z}{l r p q:Nat}{t:List (Nat×Nat)}(g:Good old new l r ((p,q)::t))(hl:((p,q)::t).length=kU old new l r) :
  Tk old new l r p q/\(∀i j,(i<p\/i=p/\j<q)->¬Tk old new l r i j)/\Good old new (p+1) (q+1) t/\t.length=kU old new (p+1) (q+1):=by
 cases g with
 | cons h1 h2 a e1 e2 h3 g=>
  rw[W7] at hl
  have u:=D8 h1 h2 e1 e2
  have v:=g.le
  refine⟨⟨h1,h2,⟨a,e1,e2⟩,by omega⟩,λi j T3 h=>?_,g,by omega⟩
  obtain⟨k1,k2,⟨b,b1,b2⟩,k3⟩:=h
  have:=h3 i j k1 (by omega) k2 (by omega) b b1 b2
  unfold kU at k3 hl
  omega
end K01
namespace PM
open PySem (Str)
def wM:List (Nat×Nat)->Nat->Option Nat
 | [],_=>none
 | q::r,s=>if q.2=s then some q.1 else wM r s
theorem JK(row:List Ln):∀(qs:List (Nat×Nat))(s:Nat),og row qs s=(wM qs s).bind λi=>row[i]?
 | [],_=>rfl
 | q::r,s=>by
  show(if q.2=s then row[q.1]? else og row r s)=(if q.2=s then some q.1 else wM r s).bind _
  split
  ·rfl
  ·exact JK row r s
theorem JL{s p:Nat}:∀{qs:List (Nat×Nat)},wM qs s=some p->(p,s)∈qs
 | q::r,h=>by
  have h:(if q.2=s then some q.1 else wM r s)=some p:=h
  by_cases e:q.2=s
  ·rw[aag e] at h
   cases h
   rw[<-e]
   exact aae
  ·rw[aac e] at h
   exact YE _ (JL h)
theorem Gh{q:Nat×Nat}:∀{xs:List (Nat×Nat)},q.2∉xs.map (·.2)->∀s,wM (xs++[q]) s=if q.2=s then some q.1 else wM xs s
 | [],_,s=>rfl
 | x::r,h,s=>by
  rw[aat] at h
  have h1:q.2≠x.2:=λz=>h (by rw[z];exact aae)
  have h2:q.2∉r.map (·.2):=λz=>h (YE _ z)
  show(if x.2=s then some x.1 else wM (r++[q]) s)=if q.2=s then some q.1 else(if x.2=s then some x.1 else wM r s)
  by_cases e:x.2=s
  ·rw[aag e,aac (λz=>h1 (by rw[z,e])),aag e]
  ·rw[aac e,aac e,Gh h2 s]
end PM
namespace PK
open PySem L2 PM
theorem zH{ps:List Pt}{f:Str}(h:iZ ps f≠[]):f∈ps.filterMap (·.file):=by
 obtain⟨l,hl⟩:=List.exists_mem_of_ne_nil _ h
 obtain⟨p,hp,e,_⟩:=jC.mp ((jB ps f).subset hl)
 exact abP.mpr ⟨p,hp,e⟩
theorem Fi{Z Y:Type}(f:Z->Option Y)(l:List Z):(l.filterMap f).length<=l.length:=List.length_filterMap_le _ _
structure Fl(fs:List Str)(has:Str->Prop):Prop where
 asc:ML fs
 nd:fs.Nodup
 mem:∀f,f∈fs↔has f
theorem Fl.uniq{x y:List Str}{p:Str->Prop}(a:Fl x p)(b:Fl y p):x=y:=JH a.asc b.asc a.nd b.nd λz=>(a.mem z).trans (b.mem z).symm
section
variable{P:Program}{w:World}{K:Qqy}{mg:Qqx}{base:Heap}{A:Ad}
def Ru(A:Ad):Sp:=λvs H Q _=>∃(a:Addr)(ps:List Pt),vs=[.ref a]/\wD A H a ps/\Small ps/\ps.length<63/\∀p H' fs,gg H H'->H p=none->H' p=some (.lst (gi fs))->Fl fs (λf=>iZ ps f≠[])->Q (.ref p) H'
theorem s_(T:Txt mg)(O:Ok K mg A):iq P w K mg base lN 3 A.nV A.nX ["patches"] (Ru A):=by
 have mr:=@oI P w K mg base A T O
 refine O.pN.f.pR jP λjv A0 outer s H vs Q E hr h=>?_
 obtain⟨a,ps,rfl,pa,sm,Xk,q⟩:=h
 obtain⟨as,ha,pl⟩:=id pa
 have hlen:=aaj pl
 have sz:sizeLine=16777216:=aaE
 refine⟨_,(c_ (Bw (j:=1) kX (f_ js).names [2] jP.nd rfl rfl rfl (iH (pv 0)) rfl (by decide+kernel) (λ_ _ _ _=>(iK (i:=2) jP.nd rfl (Or.inl rfl))) (λ_ _ _ _=>⟨_,oO (jw (nu (hU (pv 2) rfl))),by(try simp only [kR]);rfl⟩) (λ_ _ _ _=>Bz (hU (pv 2) rfl)))
   (eV (ia (vT kX (f_ js).names [3] rfl (iH (Fd rfl (by rfl) T.Du (by rfl) T.Q0 (ak (pv 1) d_))) rfl (by decide+kernel) (λ_ _ _ _=>(iK (i:=3) jP.nd rfl (Or.inl rfl))) (λ_ _ _ _=>⟨_,oO (uD (n_ O.n4 mr hr (ak (pv 0) (ak (pv 3) d_))) (λ_=>rfl)),by(try simp only [kR]);rfl⟩) (λ_ _ _ _=>Bz (pv 3)))))),?_⟩
 refine Kt ?_;intro _
 refine⟨_,rfl,a,rfl,⟨_,h_.of ha⟩,ky (K:=K) (a:=a) (xs:=as.map V.ref) (by rw[QU,hlen];omega) (λi ys Z H3=>∃(v2:Option V),Z=[rr a,none,v2,none]/\H3=H/\ys=gi ((ps.take i).filterMap (·.file)))
  ⟨none,rfl,rfl,rfl⟩ (by rintro _ _ _ _ _ ⟨_,_,e,e2⟩;subst e e2;exact⟨h_.of ha,by rw[QU];exact aao (Fi _ _) (by rw[aaA];omega)⟩) ?_ ?_⟩
 ·rintro i v ys Z H3 hx ⟨v2,rfl,rfl,rfl⟩
  obtain⟨b,hb,rfl⟩:=jR hx
  obtain⟨p,hp,dx,vf,pu,cu,vo,g1,g2,g3,g4,g5⟩:=il pl hb
  refine⟨_,rfl,b,A.hV,dx,_,_,rfl,g1,O.i6,O.jl,zo,_,rfl,?_⟩
  rw[take_snoc hp,abQ]
  cases hf:p.file with
  | none=>
   rw[hf] at g2
   cases g2
   refine o9 (by rfl) ⟨_,rfl,rfl,?_⟩
   rw[List.filterMap_cons_none hf,List.filterMap_nil,aaJ]
  | some f=>
   rw[hf] at g2
   cases g2
   refine yP (by rfl) ⟨_,rfl,b,A.hV,dx,_,_,rfl,g1,O.i6,O.jl,zo,_,rfl,rfl,?_⟩
   rw[List.filterMap_cons_some hf,List.filterMap_nil,i3]
 ·rintro ys Z H3 ⟨v2,rfl,rfl,rfl⟩ l hl
  rw[QU,hlen,aav]
  have s1:gg H3 (upd H3 l (.lst (gi (ps.filterMap (·.file))))):=(gg.refl H3).new hl
  have Gr:=Fi (·.file) ps
  refine⟨_,rfl,l,_,rfl,h_.of a_,by omega,λp zs hp asc nd mem zl=>?_⟩
  have s2:=s1.new (o:=.lst (zs.map V.str)) hp
  have vJ:(upd (upd H3 l (.lst (gi (ps.filterMap (·.file))))) p (.lst (zs.map V.str))) p=some (.lst (gi zs)):=a_
  have Gq:=s1.free hp
  generalize upd (upd H3 l (.lst (gi (ps.filterMap (·.file))))) p (.lst (zs.map V.str))=H4 at s2 vJ
  refine⟨p,rfl,⟨_,h_.of vJ⟩,ky (K:=K) (a:=p) (xs:=gi zs) (by rw[QU];omega) (λi ys Z H5=>∃(v3:Option V),Z=[rr a,rr l,none,v3]/\gg H4 H5/\ys=gi ((zs.take i).filter λf=>decide (iZ ps f≠[])))
   ⟨none,rfl,gg.refl H4,rfl⟩ (by rintro _ _ _ _ _ ⟨_,_,e,e2⟩;subst e2;exact⟨h_.of (e _ _ vJ),by rw[QU];exact aao (aaM _ _) (by rw[aaA];omega)⟩) ?_ ?_⟩
  ·rintro i v ys Z H5 hx ⟨v3,rfl,s5,rfl⟩
   obtain⟨f,hf,rfl⟩:=sy hx
   refine⟨_,rfl,_,rfl,a,ps,f,rfl,pa.same (s2.trans s5),sm,λr H6 s6 qS h6=>?_⟩
   obtain⟨as6,ZX,h6p⟩:=h6
   have Xl:=aaj h6p
   rw[take_snoc hf,aaH]
   by_cases hs:iZ ps f=[]
   ·rw[hs] at Xl
    refine⟨false,.inl ⟨_,h_.of ZX,by rw[aas.mp Xl];rfl⟩,j_ ⟨_,rfl,s5.trans s6,?_⟩⟩
    rw[aaf (by simpa using hs),aaX,aaJ]
   ·refine⟨true,.inl ⟨_,h_.of ZX,?_⟩,oM ⟨_,rfl,_,rfl,s5.trans s6,?_⟩⟩
    ·cases as6 with
     | nil=>exact absurd (aas.mp Xl.symm) hs
     | cons=>rfl
    ·rw[aad (by simpa using hs),aaX,i3]
  ·rintro ys Z H5 ⟨v3,rfl,s5,rfl⟩ r qS
   rw[show(gi zs).length=zs.length from QU _,aav]
   have s6:=(s2.trans s5).new (o:=.lst (gi (zs.filter λf=>decide (iZ ps f≠[])))) qS
   refine q r _ _ s6 ((s2.trans s5).free qS) a_ ⟨Fc asc _,nd.filter _,λf=>?_⟩
   rw[aah,mem,abl]
   exact⟨λh=>h.2,λh=>⟨zH h,h⟩⟩
def LZ(A:Ad):Sp:=λvs H Q E=>∃(d:Addr)(D:Dk)(W:Addr->Prop)(s:Str),vs=[.ref d,.str s]/\iY A H d D W/\sZ s/\Small D.made/\D.made.length<63/\Inv D/\(s∉D.stores->E (.ref A.jm) none H)/\(s∈D.stores->∀p H' fs,gg H H'->H p=none->H' p=some (.lst (gi fs))->Fl fs (λf=>D.row s f≠[])->Q (.ref p) H')
theorem D9(T:Txt mg)(O:Ok K mg A):iq P w K mg base (xU P w) 5 A.vb A.vc ["self","store"] (LZ A):=by
 have lM:=@tT P w K mg base A T O
 have uq:=@s_ P w K mg base A T O
 refine O.uk.f.yV Aj λjv A0 outer s H vs Q E hr h=>?_
 obtain⟨d,D,W,st,rfl,X,hf,sm,Xk,I,qe,q⟩:=h
 obtain⟨Y,x⟩:=id X
 refine⟨_,(eV (ia (n_ O.pN uq hr (ak (Lj bx (pv 0) O.iB O.mV lM hr (ak (pv 1) d_)) d_)))),?_⟩
 refine⟨_,rfl,d,Y.dx,_,rfl,x.hd,tR,_,rfl,d,D,W,st,rfl,X,hf,sm.many,λhs=>qe hs,λhs a H1 s1 ha0 Qe=>?_⟩
 have hl:(D.kc st).length<=D.made.length:=(Inv.p9 st).length_le
 refine⟨a,D.kc st,rfl,Qe,sm.sub (Inv.p9 st),by omega,λp H' fs s2 hp vJ F=>q hs p H' fs (s1.trans s2) (s1.free hp) vJ ⟨F.asc,F.nd,λf=>(F.mem f).trans ?_⟩⟩
 have:=(I.lD st f).length_eq
 constructor
 ·exact λh z=>h (aas.mp (by rw[<-this,z];rfl))
 ·exact λh z=>h (aas.mp (by rw[this,z];rfl))
def L0:Sp:=λvs H Q _=>∃(a b:Addr)(x y:List Str),vs=[.ref a,.ref b]/\H a=some (.lst (gi x))/\H b=some (.lst (gi y))/\Q (.bl (decide (x=y))) H
theorem JM:W.kitOne K (.type "list") (.type "list")=some true:=aag (by decide)
theorem Fj:W.kitOne K (.type "str") (.type "str")=some true:=aag (by decide)
theorem Cf(T:Txt mg)(O:Ok K mg A):iq P w K mg base lN 1 A.pL A.pM ["found","due"] L0:=by
 refine O.lJ.f.pR oE λjv A outer s H vs Q E hr h=>?_
 obtain⟨a,b,x,y,rfl,ha,hb,q⟩:=h
 refine⟨_,(c_ (iJ ((pw_or (mH (nH (hG jV (by rfl) T.jG aaR (ak (pv 0) (ak (om (v:=.ty "list") (by rfl) T.ug abr rfl) d_))))) (pw_or1 (ij FE (hG gq (by rfl) T.jW aaz (ak (pv 0) d_)) (hG gq (by rfl) T.jW aaz (ak (pv 1) d_)) (iy _)))).pt) (eV (ia mz)) ie)
   (c_ (iI aap rfl (iH (pv 0)) (uc 2 oE) (eV (iJ (mH (nH (hG jV (by rfl) T.jG aaR (ak (pv 2) (ak (om (v:=.ty "str") (by rfl) T.Jc PyProof.Rows.boot_str rfl) d_))))) (eV (ia mz)) ie)))
   (eV (ia (FF (Io 3 (by exact QR hr)) (pv 0) (pv 1) (iy _)))))),?_⟩
 refine Em ?_;intro _ _
 refine⟨_,rfl,_,_,_,_,rfl,.lst ha,JM,_,rfl,j_ ?_⟩
 refine⟨_,rfl,a,_,rfl,.inl (h_.of ha),_,rfl,b,_,rfl,.inl (h_.of hb),rfl,_,rfl,?_⟩
 refine lb (λhc=>?_) (λhc=>?_)
 ·rw[aai λz=>?_] at q
  ·exact q
  ·subst z;simp at hc
 ·let Jv:=λ(i:Nat) (Z:St) (H2:Hp)=>∃v,Z=[rr a,rr b,v]/\H2=H
  refine⟨_,rfl,a,rfl,⟨_,h_.of ha⟩,jy (K:=K) (a:=a) (xs:=gi x) Jv ⟨none,rfl,rfl⟩ (by rintro _ _ _ _ ⟨_,_,e⟩;subst e;exact h_.of ha) ?_ ?_⟩
  ·rintro i v Z H2 hv ⟨u,rfl,rfl⟩
   obtain⟨z,_,rfl⟩:=sy hv
   refine⟨_,rfl,_,_,_,_,rfl,.str z,Fj,_,rfl,j_ ?_⟩
   exact⟨_,rfl,rfl⟩
  ·rintro Z H2 ⟨u,rfl,rfl⟩
   exact⟨_,rfl,_,rfl,_,⟨a,b,rfl,rfl⟩,yl (h_.of ha) (h_.of hb),q⟩
theorem Rep.Vu{H:Hp}{n:Nat}{v:V}{xs:List Dv}(r:Rep H n v (.l xs)):∃a vs m,v=.ref a/\H a=some (.lst vs)/\vs.length=xs.length/\∀(j:Nat) u d,vs[j]?=some u->xs[j]?=some d->Rep H m u d:=by
 cases r with
 | l h hl hr=>exact⟨_,_,_,rfl,h,hl,hr⟩
theorem Rep.Vv{H:Hp}{n:Nat}{v:V}{xs:List Dv}(r:Rep H n v (.t xs)):∃a vs m,v=.ref a/\H a=some (.tup vs)/\vs.length=xs.length/\∀(j:Nat) u d,vs[j]?=some u->xs[j]?=some d->Rep H m u d:=by
 cases r with
 | t h hl hr=>exact⟨_,_,_,rfl,h,hl,hr⟩
theorem Rep.Rv{H:Hp}{n:Nat}{v:V}{x:Str}(r:Rep H n v (.s x)):v=.str x:=by cases r;rfl
theorem Rep.Vw{H:Hp}{n:Nat}{v:V}{x:Int}(r:Rep H n v (.i x)):v=.int x:=by cases r;rfl
theorem Rep.Rw{H:Hp}{n:Nat}{v:V}{x z:Str}{k:Int}(r:Rep H n v (.t [.s x,.i k,.s z])):∃a,v=.ref a/\H a=some (.tup [.str x,.int k,.str z]):=by
 obtain⟨a,vs,m,e,h,hl,hr⟩:=r.Vv
 match vs,hl,hr,h with
 | [u1,u2,u3],_,hr,h=>
  have e1:=(hr 0 u1 _ rfl rfl).Rv
  have e2:=(hr 1 u2 _ rfl rfl).Vw
  have e3:=(hr 2 u3 _ rfl rfl).Rv
  subst e1 e2 e3
  exact⟨a,e,h⟩
theorem OI:W.kitOne K (.type "tuple") (.type "tuple")=some true:=aag (by decide)
theorem OJ:W.kitOne K (.type "int") (.type "int")=some true:=aag (by decide)
theorem OK:W.kitOne K (.type "int") (.type "bool")=some false:=by kernel_rfl
def L1:Sp:=λvs H Q _=>∃i:Int,vs=[.int i]/\Q (.bl true) H
theorem JN(T:Txt mg)(O:Ok K mg A):iq P w K mg base lN 1 A.vg A.vj ["found"] L1:=by
 refine O.zi.f.pR Ak λjv A outer s H vs Q E hr h=>?_
 obtain⟨i,rfl,q⟩:=h
 refine⟨_,(eV (ia (Nn (hG jV (by rfl) T.jG aaR (ak (pv 0) (ak (om (v:=.ty "int") (by rfl) T.MF PyProof.Rows.boot_int rfl) d_))) (Nl (Np (hG jV (by rfl) T.jG aaR (ak (pv 0) (ak (om (v:=.ty "bool") (by rfl) T.N_ PyProof.Rows.boot_bool rfl) d_)))))))),?_⟩
 refine⟨_,rfl,_,_,_,_,rfl,.int i,OJ,_,rfl,oM ?_⟩
 exact⟨_,rfl,_,_,_,_,rfl,.int i,OK,_,rfl,q⟩
def Hv:Sp:=λvs H Q _=>∃(v:V)(n:Nat)(row:List Ln),vs=[v]/\Rep H n v (Ro row)/\Q (.bl true) H
theorem D_(T:Txt mg)(O:Ok K mg A):iq P w K mg base lN 2 A.qN A.qO ["row"] Hv:=by
 have Cp:=@JN P w K mg base A T O
 refine O.tQ.f.pR ph λjv A outer s H vs Q E hr h=>?_
 obtain⟨v,n,row,rfl,rp,q⟩:=h
 obtain⟨p,ps,m,rfl,hp,hl,hrp⟩:=rp.Vu
 refine⟨_,(c_ (iJ (mH (nH (hG jV (by rfl) T.jG aaR (ak (pv 0) (ak (om (v:=.ty "list") (by rfl) T.ug abr rfl) d_))))) (eV (ia mz)) ie)
   (c_ (iI aap rfl (iH (pv 0)) (uc 1 ph) (c_ (iJ ((pw_or (mH (nH (hG jV (by rfl) T.jG aaR (ak (pv 1) (ak (om (v:=.ty "tuple") (by rfl) T.Ls PyProof.Rows.boot_tuple rfl) d_))))) (pw_or (ij FE (hG gq (by rfl) T.jW aaz (ak (pv 1) d_)) e_ (iy _)) (pw_or1 (mH (nH (hG jV (by rfl) T.jG aaR (ak (jA lW (pv 1) e_ (λ_ _=>rfl)) (ak (om (v:=.ty "str") (by rfl) T.Jc PyProof.Rows.boot_str rfl) d_)))))))).pt) (eV (ia mz)) ie)
   (eV (iJ ((pw_or (mH (nH (n_ O.zi Cp hr (ak (jA lW (pv 1) e_ (λ_ _=>rfl)) d_)))) (pw_or1 (mH (nH (hG jV (by rfl) T.jG aaR (ak (jA lW (pv 1) e_ (λ_ _=>rfl)) (ak (om (v:=.ty "str") (by rfl) T.Jc PyProof.Rows.boot_str rfl) d_))))))).pt) (eV (ia mz)) ie))))
   (eV (ia mz)))),?_⟩
 refine Em ?_;intro _ _
 refine⟨_,rfl,_,_,_,_,rfl,.lst hp,JM,_,rfl,j_ ?_⟩
 let Jv:=λ(i:Nat) (Z:St) (H2:Hp)=>∃v,Z=[rr p,v]/\H2=H
 refine⟨_,rfl,p,rfl,⟨_,h_.of hp⟩,jy (K:=K) (a:=p) (xs:=ps) Jv ⟨none,rfl,rfl⟩ (by rintro _ _ _ _ ⟨_,_,e⟩;rw[e];exact h_.of hp) ?_ ?_⟩
 ·rintro i y Z H2 hi ⟨v,rfl,rfl⟩
  have j9:=(List.getElem?_eq_some_iff.mp hi).1
  rw[hl,QU] at j9
  have uy:(row.map λl=>Dv.t [.s l.nm.1,.i l.nm.2,.s l.tx])[i]?=some (.t [.s row[i].nm.1,.i row[i].nm.2,.s row[i].tx]):=by rw[YI,R7 j9];rfl
  obtain⟨a,rfl,ha⟩:=(hrp i y _ hi uy).Rw
  refine⟨_,rfl,_,_,_,_,rfl,.tup ha,OI,_,rfl,j_ ?_⟩
  refine⟨_,rfl,a,_,rfl,.inr (qT.of ha),rfl,_,rfl,o9 (by rfl) ?_⟩
  refine⟨_,rfl,a,_,_,_,rfl,rfl,qT.of ha,ig (j:=0) rfl rfl,_,_,_,_,rfl,.str _,Fj,_,rfl,j_ ?_⟩
  refine⟨_,rfl,a,_,_,_,rfl,rfl,qT.of ha,ig (j:=1) rfl rfl,_,rfl,_,rfl,j_ ?_⟩
  refine⟨_,rfl,a,_,_,_,rfl,rfl,qT.of ha,ig (j:=2) rfl rfl,_,_,_,_,rfl,.str _,Fj,_,rfl,j_ ?_⟩
  exact⟨_,rfl,rfl⟩
 ·rintro Z H2 ⟨v,rfl,rfl⟩
  exact q
set_option maxHeartbeats 4000000
abbrev key(i j:Nat):List Key:=[Sum.inl (i:Int),Sum.inl (j:Int)]
theorem Ci{i j i' j':Nat}:key i j=key i' j'↔i=i'/\j=j':=by
 constructor
 ·intro h
  injection h with h1 h2
  injection h2 with h2 _
  have h1:=Sum.inl.inj h1
  have h2:=Sum.inl.inj h2
  omega
 ·rintro⟨rfl,rfl⟩;rfl
def oV(old new:List Str)(a b:Nat)(kvs:List (List Key×V)):Prop:=
 ∀i j:Nat,iA kvs (key i j)=if i<=old.length/\j<=new.length/\(a<=i\/(i+1=a/\b<=j)) then some (V.int (K01.kU old new i j)) else none
theorem oV.get{old new:List Str}{a b:Nat}{kvs:List (List Key×V)}(h:oV old new a b kvs){i j:Nat}(hd:i<=old.length->j<=new.length->(a<=i\/(i+1=a/\b<=j))):(iA kvs (key i j)).getD (.int 0)=V.int (K01.kU old new i j):=by
 rw[h i j]
 by_cases hc:i<=old.length/\j<=new.length/\(a<=i\/(i+1=a/\b<=j))
 ·rw[aag hc];rfl
 ·rw[aac hc]
  have:old.length<=i\/new.length<=j:=by
   by_cases h1:i<=old.length
   ·by_cases h2:j<=new.length
    ·exact absurd ⟨h1,h2,hd h1 h2⟩ hc
    ·exact .inr (by omega)
   ·exact .inl (by omega)
  rw[K01.lB this];rfl
def JO:Sp:=λvs H Q _=>∃(old new:List Str)(o n:Addr),vs=[.ref o,.ref n]/\H o=some (.lst (gi old))/\H n=some (.lst (gi new))/\old.length<=1000/\new.length<=1000/\
 ∀d H' kvs,gg H H'->H d=none->H' d=some (.dT kvs)->oV old new 0 0 kvs->Q (.ref d) H'
theorem L3{x y z:Nat}(h:z=max x y):(if(y:Int)>(x:Int) then(y:Int) else(x:Int))=(z:Int):=by split<;>omega
theorem oV.step{old new:List Str}{a i j:Nat}{kvs S_:List (List Key×V)}(h:oV old new (i+1) (j+1) kvs)(hi:i<=old.length)(hj:j<=new.length)
  (hp:∀i' j':Nat,iA S_ (key i' j')=if key i' j'=key i j then some (V.int (K01.kU old new i j)) else iA kvs (key i' j')):oV old new (i+1) j S_:=by
 intro i' j'
 rw[hp i' j']
 by_cases e:key i' j'=key i j
 ·obtain⟨rfl,rfl⟩:=Ci.mp e
  rw[aag e,aag ⟨hi,hj,.inr ⟨rfl,Vb _⟩⟩]
 ·rw[aac e,h i' j']
  have ne:¬(i'=i/\j'=j):=λz=>e (Ci.mpr z)
  by_cases hc:i'<=old.length/\j'<=new.length/\(i+1<=i'\/(i'+1=i+1/\j+1<=j'))
  ·rw[aag hc,aag ⟨hc.1,hc.2.1,by omega⟩]
  ·rw[aac hc,aac (λz=>hc ⟨z.1,z.2.1,by omega⟩)]
theorem Hw(T:Txt mg)(O:Ok K mg A):iq P w K mg base lN 1 A.tM A.tN ["old","new"] JO:=by
 refine O.xM.f.pR lF λjv A0 outer s H vs Q E hr h=>?_
 obtain⟨old,new,o,n,rfl,ho,hn,TQ,uy,q⟩:=h
 refine⟨_,(c_ (lg 2 lF lu)
   (c_ (iI aap rfl (Il rfl T.qo (ak (lV uK (by rfl) T.jQ PyProof.Rows.boot_range (ak (gn ik (hG gq (by rfl) T.jW aaz (ak (pv 0) d_)) e_) d_)) d_)) (uc 3 lF) (eV (iI aap rfl (Il rfl T.qo (ak (lV uK (by rfl) T.jQ PyProof.Rows.boot_range (ak (gn ik (hG gq (by rfl) T.jW aaz (ak (pv 1) d_)) e_) d_)) d_)) (uc 4 lF) (c_ (jd (by exact iS hr) (pv 2) (kF (ak (pv 3) (ak (pv 4) d_))) (hG (vO rfl) (by rfl) T.Jb PyProof.Rows.boot_max (ak (yD (by exact iS hr) (pv 2) (kF (ak (gn ik (pv 3) e_) (ak (pv 4) d_))) e_ ⟨rfl,rfl,rfl,rfl⟩) (ak (yD (by exact iS hr) (pv 2) (kF (ak (pv 3) (ak (gn ik (pv 4) e_) d_))) e_ ⟨rfl,rfl,rfl,rfl⟩) d_))) rfl)
   (eV (iJ ((pw_and (ij AE (pv 3) (hG gq (by rfl) T.jW aaz (ak (pv 0) d_)) (iy _)) (pw_and (ij AE (pv 4) (hG gq (by rfl) T.jW aaz (ak (pv 1) d_)) (iy _)) (pw_and1 (ij lh (vY (pv 0) (pv 3)) (vY (pv 1) (pv 4)) (iy _))))).pt) (eV (jd (by exact iS hr) (pv 2) (kF (ak (pv 3) (ak (pv 4) d_))) (hG (vO rfl) (by rfl) T.Jb PyProof.Rows.boot_max (ak (Af hr (pv 2) (kF (ak (pv 3) (ak (pv 4) d_)))) (ak (gn ik e_ (Af hr (pv 2) (kF (ak (gn ik (pv 3) e_) (ak (gn ik (pv 4) e_) d_))))) d_))) rfl)) ie))))))
   (eV (ia (pv 2))))),?_⟩
 refine Em ?_;intro _ _
 intro d hd
 have s0:gg H (upd H d (.dT [])):=(gg.refl H).new hd
 refine⟨_,rfl,o,_,rfl,.inl (h_.of (s0 o _ ho)),_,_,rfl,rfl,_,rfl,λr tU=>?_⟩
 refine⟨r,_,_,rfl,a_,⟨by decide,by decide,by simp<;>omega,by simp<;>omega⟩,?_⟩
 have eN:(((gi old).length:Int)+1-0).toNat=old.length+1:=by simp<;>omega
 rw[eN]
 have M5:d≠r:=λz=>by rw[<-z,a_] at tU;cases tU
 let Jv:=λ(t:Nat) (Z:St) (H2:Hp)=>∃(v1 v2:Option V)(kvs:List (List Key×V)),Z=[rr o,rr n,rr d,v1,v2]/\gg H H2/\H2 d=some (.dT kvs)/\oV old new (old.length+1-t) (new.length+1) kvs/\kvs.length<=2002*t
 refine nI Jv
  ⟨_,_,[],rfl,s0.new tU,by rw[de M5,a_],λi j=>?_,aaI _⟩ ?_ ?_
 ·rw[aac (by omega)];rfl
 ·rintro t Z H2 ht ⟨v1,v2,kvs,rfl,s2,h2,Uv,l2⟩
  obtain⟨i,hi⟩:∃i,i=old.length-t:=⟨_,rfl⟩
  have MY:i<=old.length:=by omega
  rw[show(0:Int)+((old.length+1:Nat):Int)-1+(t:Int) * -1=(i:Int) by omega]
  rw[show old.length+1-t=i+1 by omega] at Uv
  refine⟨_,rfl,n,_,rfl,.inl (h_.of (s2 n _ hn)),_,_,rfl,rfl,_,rfl,λr tU=>?_⟩
  refine⟨r,_,_,rfl,a_,⟨by decide,by decide,by simp<;>omega,by simp<;>omega⟩,?_⟩
  have eN:(((gi new).length:Int)+1-0).toNat=new.length+1:=by simp<;>omega
  rw[eN]
  have M5:d≠r:=λz=>by rw[<-z,h2] at tU;cases tU
  let Jv:=λ(u:Nat) (Z:St) (H3:Hp)=>∃(v2:Option V)(kvs:List (List Key×V)),Z=[rr o,rr n,rr d,ri i,v2]/\gg H H3/\H3 d=some (.dT kvs)/\oV old new (i+1) (new.length+1-u) kvs/\kvs.length<=2002*t+2*u
  refine nI Jv
   ⟨_,kvs,rfl,s2.new tU,by rw[de M5];exact h2,Uv,by omega⟩ ?_ ?_
  ·rintro u Z H3 hu1 ⟨v2,kvs,rfl,s3,h3,Na,l3⟩
   obtain⟨j,hj⟩:∃j,j=new.length-u:=⟨_,rfl⟩
   have Ub:j<=new.length:=by omega
   rw[show(0:Int)+((new.length+1:Nat):Int)-1+(u:Int) * -1=(j:Int) by omega]
   rw[show new.length+1-u=j+1 by omega] at Na
   have g1:=Na.get (i:=i+1) (j:=j) (λ_ _=>.inl (Vb _))
   have g2:=Na.get (i:=i) (j:=j+1) (λ_ _=>.inr ⟨rfl,Vb _⟩)
   refine⟨_,rfl,d,rfl,.inr ⟨_,.inl h3⟩,_,rfl,_,_,rfl,rfl,_,rfl,kL,λt1 Gm=>?_⟩
   have Ta:d≠t1:=gc h3 Gm
   refine⟨_,jg.t (k:=key (i+1) j) (by rw[de Ta];exact h3) a_,?_⟩
   refine⟨_,rfl,d,rfl,.inr ⟨_,.inl (by rw[de Ta];exact h3)⟩,_,rfl,_,rfl,_,_,rfl,rfl,kL,λt2 Md=>?_⟩
   have Xm:(upd H3 t1 (.tup [.int ((i:Int)+1),.int (j:Int)])) d=some (.dT kvs):=by rw[de Ta];exact h3
   have P9:d≠t2:=gc Xm Md
   refine⟨_,jg.t (k:=key i (j+1)) (by rw[de P9];exact Xm) a_,?_⟩
   refine⟨_,_,by rw[g1,g2],?_⟩
   have s4:gg H (upd (upd H3 t1 (.tup [.int ((i:Int)+1),.int (j:Int)])) t2 (.tup [.int (i:Int),.int ((j:Int)+1)])):=(s3.new Gm).new Md
   have h4:(upd (upd H3 t1 (.tup [.int ((i:Int)+1),.int (j:Int)])) t2 (.tup [.int (i:Int),.int ((j:Int)+1)])) d=some (.dT kvs):=by rw[de P9];exact Xm
   generalize upd (upd H3 t1 (.tup [.int ((i:Int)+1),.int (j:Int)])) t2 (.tup [.int (i:Int),.int ((j:Int)+1)])=H4 at s4 h4
   obtain⟨M,hM⟩:∃M:Nat,M=max (K01.kU old new (i+1) j) (K01.kU old new i (j+1)):=⟨_,rfl⟩
   rw[L3 hM]
   refine⟨_,rfl,_,rfl,_,rfl,kL,λt3 Uw=>?_⟩
   have nd3:d≠t3:=gc h4 Uw
   refine⟨d,_,rfl,mB.t (k:=key i j) (by rw[de nd3];exact h4) a_ (by have:sizeLine=2 ^ 24:=rfl;omega),?_⟩
   have l5:=iQ kvs (key i j) (V.int M)
   have s5:gg H (upd (upd H4 t3 (.tup [.int (i:Int),.int (j:Int)])) d (.dT (putK kvs (key i j) (V.int M)))):=(s4.new Uw).upd hd
   have p5:∀i' j':Nat,iA (putK kvs (key i j) (V.int M)) (key i' j')=if key i' j'=key i j then some (V.int M) else iA kvs (key i' j'):=λi' j'=>jq kvs (key i j) (key i' j') (V.int M)
   have h5:(upd (upd H4 t3 (.tup [.int (i:Int),.int (j:Int)])) d (.dT (putK kvs (key i j) (V.int M)))) d=some (.dT (putK kvs (key i j) (V.int M))):=a_
   generalize upd (upd H4 t3 (.tup [.int (i:Int),.int (j:Int)])) d (.dT (putK kvs (key i j) (V.int M)))=H5 at s5 h5
   generalize putK kvs (key i j) (V.int M)=Eh at l5 p5 h5
   have fin:∀H6,gg H H6->H6 d=some (.dT Eh)->K01.kU old new i j=M->
     ∃(v2:Option V)(kvs:List (List Key×V)),[some (.ref o),some (.ref n),some (.ref d),some (.int i),some (.int j)]=[some (.ref o),some (.ref n),some (.ref d),some (.int i),v2]/\gg H H6/\H6 d=some (.dT kvs)/\oV old new (i+1) (new.length+1-(u+1)) kvs/\kvs.length<=2002*t+2*(u+1):=λH6 s6 h6 eM=>
    ⟨_,Eh,rfl,s6,h6,by rw[show new.length+1-(u+1)=j by omega];exact Na.step (a:=0) MY Ub (λi' j'=>by rw[p5,eM]),by omega⟩
   refine⟨_,rfl,_,rfl,o,_,rfl,.inl (h_.of (s5 o _ ho)),_,_,rfl,rfl,_,rfl,?_⟩
   refine lb (λhc=>?_) (λhc=>j_ ?_)
   ·have hc:(i:Int)<((gi old).length:Int):=aau hc
    have yq:i<old.length:=by simpa using hc
    refine⟨_,rfl,_,rfl,n,_,rfl,.inl (h_.of (s5 n _ hn)),_,_,rfl,rfl,_,rfl,?_⟩
    refine lb (λhc=>?_) (λhc=>j_ ?_)
    ·have hc:(j:Int)<((gi new).length:Int):=aau hc
     have Mh:j<new.length:=by simpa using hc
     have eo:old[i]?=some old[i]:=R7 yq
     have en:new[j]?=some new[j]:=R7 Mh
     have B:=K01.IT eo en
     refine⟨_,rfl,_,rfl,o,_,_,_,rfl,rfl,h_.of (s5 o _ ho),ig rfl (ju eo),_,rfl,_,rfl,n,_,_,_,rfl,rfl,h_.of (s5 n _ hn),ig rfl (ju en),rfl,_,rfl,?_⟩
     refine lb (λhc=>?_) (λhc=>?_)
     ·have hc:old[i]=new[j]:=by have:=aau hc;injection this
      rw[aag hc] at B
      refine⟨_,rfl,_,rfl,_,rfl,kL,λt4 J6=>?_⟩
      have ZY:d≠t4:=gc h5 J6
      have v4:iA Eh (key i j)=some (V.int M):=by rw[p5,aag rfl]
      refine⟨d,_,rfl,by rw[<-v4];exact jg.t (k:=key i j) (by rw[de ZY];exact h5) a_,?_⟩
      refine⟨_,rfl,_,rfl,_,_,rfl,rfl,_,rfl,_,_,rfl,rfl,kL,λt5 ZZ=>?_⟩
      have Xn:(upd H5 t4 (.tup [.int (i:Int),.int (j:Int)])) d=some (.dT Eh):=by rw[de ZY];exact h5
      have Z0:d≠t5:=gc Xn ZZ
      have v5:iA Eh (key (i+1) (j+1))=some (V.int (K01.kU old new (i+1) (j+1))):=by
       rw[p5,aac (λz=>by have:=Ci.mp z;omega),Na,aag ⟨by omega,by omega,.inl (Vb _)⟩]
      refine⟨d,_,rfl,by rw[<-v5];exact jg.t (k:=key (i+1) (j+1)) (by rw[de Z0];exact Xn) a_,?_⟩
      refine⟨_,_,rfl,rfl,_,_,rfl,?_⟩
      have eM:(if(1:Int)+((K01.kU old new (i+1) (j+1):Nat):Int)>(M:Int) then(1:Int)+((K01.kU old new (i+1) (j+1):Nat):Int) else(M:Int))=((K01.kU old new i j:Nat):Int):=by split<;>omega
      rw[eM]
      have s6:gg H (upd (upd H5 t4 (.tup [.int (i:Int),.int (j:Int)])) t5 (.tup [.int ((i:Int)+1),.int ((j:Int)+1)])):=(s5.new J6).new ZZ
      have h6:(upd (upd H5 t4 (.tup [.int (i:Int),.int (j:Int)])) t5 (.tup [.int ((i:Int)+1),.int ((j:Int)+1)])) d=some (.dT Eh):=by rw[de Z0];exact Xn
      generalize upd (upd H5 t4 (.tup [.int (i:Int),.int (j:Int)])) t5 (.tup [.int ((i:Int)+1),.int ((j:Int)+1)])=H6 at s6 h6
      refine⟨_,rfl,_,rfl,_,rfl,kL,λt6 HH=>?_⟩
      have nd6:d≠t6:=gc h6 HH
      refine⟨d,_,rfl,mB.t (k:=key i j) (by rw[de nd6];exact h6) a_ (by have:sizeLine=2 ^ 24:=rfl;omega),?_⟩
      have l7:=iQ Eh (key i j) (V.int (K01.kU old new i j))
      refine⟨_,putK Eh (key i j) (V.int (K01.kU old new i j)),rfl,(s6.new HH).upd hd,a_,?_,by omega⟩
      rw[show new.length+1-(u+1)=j by omega]
      refine Na.step (a:=0) MY Ub λi' j'=>?_
      rw[jq,p5]
      by_cases e:key i' j'=key i j
      ·rw[aag e,aag e]
      ·rw[aac e,aac e,aac e]
     ·have hc:¬old[i]=new[j]:=λz=>hc (V7 (aaQ V.str z))
      rw[aac hc] at B
      exact fin H5 s5 h5 (by omega)
    ·have hc:¬(j:Int)<((gi new).length:Int):=λz=>hc (V7 z)
     have Mh:new.length<=j:=by simpa using hc
     refine fin H5 s5 h5 ?_
     rw[K01.lB (.inr Mh),hM,K01.lB (.inr Mh),K01.lB (.inr (by omega))]
     rfl
   ·have hc:¬(i:Int)<((gi old).length:Int):=λz=>hc (V7 z)
    have yq:old.length<=i:=by simpa using hc
    refine fin H5 s5 h5 ?_
    rw[K01.lB (.inl yq),hM,K01.lB (.inl (by omega)),K01.lB (.inl yq)]
    rfl
  ·rintro Z H3 ⟨v2,kvs,rfl,s3,h3,Na,l3⟩
   refine⟨_,_,kvs,rfl,s3,h3,λi' j'=>?_,by omega⟩
   rw[Na i' j']
   by_cases hc:i'<=old.length/\j'<=new.length/\(i+1<=i'\/(i'+1=i+1/\new.length+1-(new.length+1)<=j'))
   ·rw[aag hc,aag ⟨hc.1,hc.2.1,by omega⟩]
   ·rw[aac hc,aac (λz=>hc ⟨z.1,z.2.1,by omega⟩)]
 ·rintro Z H2 ⟨v1,v2,kvs,rfl,s2,h2,Uv,l2⟩
  refine⟨_,rfl,q d H2 kvs s2 hd h2 λi j=>?_⟩
  rw[Uv i j]
  by_cases hc:i<=old.length/\j<=new.length/\(old.length+1-(old.length+1)<=i\/(i+1=old.length+1-(old.length+1)/\new.length+1<=j))
  ·rw[aag hc,aag ⟨hc.1,hc.2.1,.inl (aaI _)⟩]
  ·rw[aac hc,aac (λz=>hc ⟨z.1,z.2.1,.inl (by omega)⟩)]
def OL:Sp:=λvs H Q _=>∃(d o n:Addr)(old new:List Str)(l r:Nat)(kvs:List (List Key×V)),vs=[.ref d,.ref o,.ref n,.int l,.int r]/\H d=some (.dT kvs)/\oV old new 0 0 kvs/\H o=some (.lst (gi old))/\H n=some (.lst (gi new))/\old.length<=1000/\new.length<=1000/\l<=old.length/\r<=new.length/\
 (∀H',gg H H'->(∀i j,¬K01.Tk old new l r i j)->Q .jb H')/\
 ∀(i j:Nat)(t:Addr) H',gg H H'->H' t=some (.tup [.int i,.int j])->K01.Tk old new l r i j->(∀i' j',(i'<i\/i'=i/\j'<j)->¬K01.Tk old new l r i' j')->Q (.ref t) H'
theorem L4(T:Txt mg)(O:Ok K mg A):iq P w K mg base lN 1 A.xF A.xG ["rows","old","new","left","right"] OL:=by
 refine O.wC.f.pR qm λjv A0 outer s H vs Q E hr h=>?_
 obtain⟨d,o,n,old,new,l,r,kvs,rfl,hd,ok,ho,hn,lo,ln,hl,z8,q0,q1⟩:=h
 refine⟨_,(c_ (iI aap rfl (sv rfl T.jQ (ak (pv 3) (ak (hG gq (by rfl) T.jW aaz (ak (pv 1) d_)) d_))) (uc 5 qm) (eV (iI aap rfl (sv rfl T.jQ (ak (pv 4) (ak (hG gq (by rfl) T.jW aaz (ak (pv 2) d_)) d_))) (uc 6 qm) (eV (iJ ((pw_and (ij lh (vY (pv 1) (pv 5)) (vY (pv 2) (pv 6)) (iy _)) (pw_and1 (ij lh (gn ik e_ (Af hr (pv 0) (kF (ak (gn ik (pv 5) e_) (ak (gn ik (pv 6) e_) d_))))) (Af hr (pv 0) (kF (ak (pv 3) (ak (pv 4) d_)))) (iy _)))).pt) (eV (ia (kF (ak (pv 5) (ak (pv 6) d_))))) ie)))))
   (eV (ia vM))),?_⟩
 refine Kt ?_;intro _
 have eo:((gi old).length:Int)=(old.length:Int):=by simp
 have en:((gi new).length:Int)=(new.length:Int):=by simp
 refine⟨_,rfl,_,rfl,o,_,rfl,.inl (h_.of ho),_,_,rfl,⟨by omega,by omega,by omega,by omega⟩,?_⟩
 rw[eo,show((old.length:Int)-(l:Int)).toNat=old.length-l by omega]
 let Jv:=λ(m:Nat) (Z:St) (H2:Hp)=>∃(v5 v6:Option V),Z=[rr d,rr o,rr n,ri l,ri r,v5,v6]/\gg H H2/\∀i j,i<l+m->¬K01.Tk old new l r i j
 refine j2 Jv ⟨none,none,rfl,gg.refl H,λi j hi h=>by have:=h.1;omega⟩ ?_ ?_
 ·rintro m Z H2 hm ⟨v5,v6,rfl,s2,f2⟩
  rw[show(l:Int)+(m:Int)=((l+m:Nat):Int) by omega]
  refine⟨_,rfl,_,rfl,n,_,rfl,.inl (h_.of (s2 _ _ hn)),_,_,rfl,⟨by omega,by omega,by omega,by omega⟩,?_⟩
  rw[en,show((new.length:Int)-(r:Int)).toNat=new.length-r by omega]
  let Jv:=λ(u:Nat) (Z:St) (H3:Hp)=>∃(v6:Option V),Z=[rr d,rr o,rr n,ri l,ri r,ri ((l+m:Nat):Int),v6]/\gg H H3/\∀j,j<r+u->¬K01.Tk old new l r (l+m) j
  refine j2 Jv ⟨v6,rfl,s2,λj hj h=>by have:=h.2.1;omega⟩ ?_ ?_
  ·rintro u Z H3 hu ⟨v6,rfl,s3,f3⟩
   rw[show(r:Int)+(u:Int)=((r+u:Nat):Int) by omega]
   generalize hi:l+m=i at f2 f3
   generalize hj:r+u=j at f3
   have hi1:i<old.length:=by omega
   have WM:j<new.length:=by omega
   have eo:old[i]?=some old[i]:=R7 hi1
   have en:new[j]?=some new[j]:=R7 WM
   refine⟨_,rfl,_,rfl,o,_,_,_,rfl,rfl,h_.of (s3 o _ ho),ig rfl (ju eo),_,rfl,_,rfl,n,_,_,_,rfl,rfl,h_.of (s3 n _ hn),ig rfl (ju en),rfl,_,rfl,?_⟩
   refine lb (λhc=>?_) (λhc=>?_)
   ·have hc:old[i]=new[j]:=by have:=aau hc;injection this
    refine⟨_,rfl,_,rfl,_,_,rfl,rfl,_,rfl,_,_,rfl,rfl,kL,λt1 Gm=>?_⟩
    have Ta:d≠t1:=gc (s3 _ _ hd) Gm
    have v1:iA kvs (key (i+1) (j+1))=some (V.int (K01.kU old new (i+1) (j+1))):=by
     rw[ok,aag ⟨by omega,by omega,.inl (aaI _)⟩]
    have v2:iA kvs (key l r)=some (V.int (K01.kU old new l r)):=by
     rw[ok,aag ⟨hl,z8,.inl (aaI _)⟩]
    refine⟨d,_,rfl,by rw[<-v1];exact jg.t (k:=key (i+1) (j+1)) (by rw[de Ta];exact s3 _ _ hd) a_,?_⟩
    have s4:=s3.new (o:=.tup [.int ((i:Int)+1),.int ((j:Int)+1)]) Gm
    generalize upd H3 t1 (.tup [.int ((i:Int)+1),.int ((j:Int)+1)])=H4 at s4
    refine⟨_,_,rfl,rfl,?_⟩
    refine⟨_,rfl,_,rfl,_,rfl,kL,λt2 Md=>?_⟩
    have P9:d≠t2:=gc (s4 _ _ hd) Md
    refine⟨d,_,rfl,by rw[<-v2];exact jg.t (k:=key l r) (by rw[de P9];exact s4 _ _ hd) a_,?_⟩
    have s5:=s4.new (o:=.tup [.int (l:Int),.int (r:Int)]) Md
    generalize upd H4 t2 (.tup [.int (l:Int),.int (r:Int)])=H5 at s5
    refine⟨rfl,_,rfl,?_⟩
    refine lb (λhb=>?_) (λhb=>?_)
    ·have hb:(1:Int)+(K01.kU old new (i+1) (j+1):Int)=(K01.kU old new l r:Int):=V.int.inj (aau hb)
     refine⟨_,rfl,_,rfl,kL,λt3 Uw=>?_⟩
     refine q1 i j t3 _ (s5.new Uw) a_ ⟨by omega,by omega,⟨_,eo,by rw[hc];exact en⟩,by omega⟩ λi' j' h=>?_
     rcases h with h|⟨rfl,h⟩
     ·exact f2 i' j' (by omega)
     ·exact f3 j' (by omega)
    ·refine⟨_,by rw[hi];rfl,s5,λj' Mh h=>?_⟩
     by_cases e:j'=j
     ·subst e
      have:=h.2.2.2
      rw[hi] at this
      exact hb (V7 (aaQ V.int (by omega)))
     ·exact f3 j' (by omega) (by rw[<-hi];exact h)
   ·have hc:¬old[i]=new[j]:=λz=>hc (V7 (aaQ V.str z))
    refine⟨_,by rw[hi];rfl,s3,λj' Mh h=>?_⟩
    by_cases e:j'=j
    ·subst e
     obtain⟨_,_,⟨a,a1,a2⟩,_⟩:=h
     rw[hi,eo] at a1
     rw[en] at a2
     exact hc ((aal a1).trans (aal a2).symm)
    ·exact f3 j' (by omega) (by rw[<-hi];exact h)
  ·rintro Z H3 ⟨v6,rfl,s3,f3⟩
   refine⟨_,_,rfl,s3,λi j hi h=>?_⟩
   by_cases e:i=l+m
   ·subst e
    obtain⟨a,_,a2⟩:=h.2.2.1
    exact f3 j (by have:=(List.getElem?_eq_some_iff.mp a2).1;omega) h
   ·exact f2 i j (by omega) h
 ·rintro Z H2 ⟨v5,v6,rfl,s2,f2⟩
  refine q0 H2 s2 λi j h=>?_
  obtain⟨a,a1,_⟩:=h.2.2.1
  exact f2 i j (by have:=(List.getElem?_eq_some_iff.mp a1).1;omega) h
def L5:Sp:=λvs H Q _=>∃(o n:Addr)(old new:List Str),vs=[.ref o,.ref n]/\H o=some (.lst (gi old))/\H n=some (.lst (gi new))/\old.length<=1000/\new.length<=1000/\
 ∀d H' (kk:List (Key×V)),gg H H'->H d=none->H' d=some (.dK kk)->(∀s:Nat,iA kk (Sum.inl (s:Int))=(wM (K01.kept old new) s).map λ(p:Nat)=>V.int p)->Q (.ref d) H'
theorem JP(T:Txt mg)(O:Ok K mg A):iq P w K mg base lN 2 A.vp A.vt ["old","new"] L5:=by
 have AA:=@Hw P w K mg base A T O
 have xR:=@L4 P w K mg base A T O
 refine O.zj.f.pR kP λjv A0 outer s H vs Q E hr h=>?_
 obtain⟨o,n,old,new,rfl,ho,hn,lo,ln,q⟩:=h
 refine⟨_,(c_ (lg 2 kP (n_ O.xM AA hr (ak (pv 0) (ak (pv 1) d_))))
   (c_ (lg 3 kP mD)
   (c_ (nK (lg 4 kP (n_ O.wC xR hr (ak (pv 2) (ak (pv 0) (ak (pv 1) (ak e_ (ak e_ d_))))))))
   (c_ (yv aap (jw (nu (pv 4))) (c_ (jd (by exact iS hr) (pv 3) (jA lW (pv 4) e_ (λ_ _=>rfl)) (jA lW (pv 4) e_ (λ_ _=>rfl)) rfl)
   (eV (nK (lg 4 kP (n_ O.wC xR hr (ak (pv 2) (ak (pv 0) (ak (pv 1) (ak (gn ik (jA lW (pv 4) e_ (λ_ _=>rfl)) e_) (ak (gn ik (jA lW (pv 4) e_ (λ_ _=>rfl)) e_) d_)))))))))))
   (eV (ia (pv 3))))))),?_⟩
 refine ME ?_;intro _ _ _ _
 refine⟨_,rfl,_,rfl,old,new,o,n,rfl,ho,hn,lo,ln,λd H1 kvs s1 hd h1 Tz=>?_⟩
 intro k hk
 have hkd:k≠d:=λe=>by rw[e,h1] at hk;cases hk
 have Z1:=s1.free hk
 have s2:=s1.new (o:=.dK []) hk
 have hd2:=ip (u:=.dK []) hk h1
 have Gk:(upd H1 k (.dK [])) k=some (.dK []):=a_
 generalize upd H1 k (.dK [])=H2 at s2 hd2 Gk
 have rise:=nG old new
 have good:=K01.wa old new
 have HB:=K01.xi old new
 generalize Qd:K01.kept old new=qs at rise good HB
 let Nx:Hp->V->List (Nat×Nat)->Prop:=λH3 v rest=>(rest=[]->v=.jb)/\∀p q t,rest=(p,q)::t->∃a,v=.ref a/\H3 a=some (.tup [.int (p:Int),.int (q:Int)])
 have next:∀{l r:Nat} {rest:List (Nat×Nat)},K01.Good old new l r rest->rest.length=K01.kU old new l r->(∀H4,(∀i j,¬K01.Tk old new l r i j)->Nx H4 .jb rest)/\
   ∀(i j:Nat) t (H4:Hp),H4 t=some (.tup [.int (i:Int),.int (j:Int)])->K01.Tk old new l r i j->(∀i' j',(i'<i\/i'=i/\j'<j)->¬K01.Tk old new l r i' j')->Nx H4 (.ref t) rest:=λ{l r rest} g hl=>by
  refine⟨λH4 P1=>⟨λ_=>rfl,λp q t e=>?_⟩,λi j t H4 J6 hT hF=>⟨λe=>?_,λp q t e=>?_⟩⟩
  ·subst e
   exact absurd (g.first hl).1 (P1 p q)
  ·subst e
   exact absurd hT (K01.Good.none (by rw[<-hl];rfl) i j)
  ·subst e
   obtain⟨g1,g2,_⟩:=g.first hl
   have:i=p/\j=q:=by
    rcases(by omega:(i<p\/i=p/\j<q)\/(p<i\/p=i/\q<j)\/(i=p/\j=q)) with z|z|z
    ·exact absurd hT (g2 i j z)
    ·exact absurd g1 (hF p q z)
    ·exact z
   obtain⟨rfl,rfl⟩:=this
   exact⟨_,rfl,J6⟩
 refine⟨λZ H3=>∃v,Z=[rr o,rr n,rr d,rr k,some v]/\gg H2 H3/\Nx H3 v qs,?_,?_⟩
 ·have nx:=next good (by rw[HB];rfl)
  exact⟨_,rfl,_,rfl,_,rfl,d,o,n,old,new,0,0,kvs,rfl,hd2,Tz,s2 _ _ ho,s2 _ _ hn,lo,ln,aaI _,aaI _,λH4 s4 P1=>⟨_,rfl,s4,nx.1 H4 P1⟩,λi j t H4 s4 ht hT hF=>⟨_,rfl,s4,nx.2 i j t H4 ht hT hF⟩⟩
 rintro Z H3 ⟨v,rfl,s3,nx⟩
 refine⟨λm Z H4=>∃(done rest:List (Nat×Nat))(v:V)(kk:List (Key×V))(l r:Nat),m=rest.length/\Z=[rr o,rr n,rr d,rr k,some v]/\gg H H4/\H4 d=some (.dT kvs)/\H4 k=some (.dK kk)/\(∀s:Nat,iA kk (Sum.inl (s:Int))=(wM done s).map λ(p:Nat)=>V.int p)/\kk.length<=done.length/\qs=done++rest/\Nx H4 v rest/\K01.Good old new l r rest/\rest.length=K01.kU old new l r,
  ⟨qs.length,[],qs,v,[],0,0,rfl,rfl,s2.trans s3,s3 _ _ hd2,s3 _ _ Gk,λs=>rfl,Vb _,rfl,nx,good,by rw[HB];rfl⟩,?_⟩
 rintro m Z H4 ⟨done,rest,v,kk,l,r,rfl,rfl,s4,d4,k4,vk,lk,eq,nx,g,hl⟩
 cases rest with
 | nil=>
  have hv:=nx.1 rfl
  subst hv
  rw[aaJ] at eq
  subst eq
  exact⟨_,rfl,_,rfl,o9 (by rfl) ⟨_,rfl,q k H4 kk s4 Z1 k4 (by rw[Qd];exact vk)⟩⟩
 | cons z t=>
  obtain⟨p,q⟩:=z
  obtain⟨a,rfl,ha⟩:=nx.2 p q t rfl
  obtain⟨⟨_,_,⟨x,x1,x2⟩,_⟩,_,g',Cm⟩:=g.first hl
  have hp:=(List.getElem?_eq_some_iff.mp x1).1
  have hq:=(List.getElem?_eq_some_iff.mp x2).1
  have Sf:done.length<=1000:=by
   have:=K01.xh old new
   rw[<-HB,eq,Vh] at this
   omega
  refine⟨_,rfl,_,rfl,yP (by rfl) ⟨λZ' H'=>∃(done rest:List (Nat×Nat))(v:V)(kk:List (Key×V))(l r:Nat),t.length=rest.length/\Z'=[some (.ref o),some (.ref n),some (.ref d),some (.ref k),some v]/\gg H H'/\H' d=some (.dT kvs)/\H' k=some (.dK kk)/\(∀s:Nat,iA kk (Sum.inl (s:Int))=(wM done s).map λ(p:Nat)=>V.int p)/\kk.length<=done.length/\qs=done++rest/\Nx H' v rest/\K01.Good old new l r rest/\rest.length=K01.kU old new l r,λZ' H' h=>⟨t.length,abA _,h⟩,?_⟩⟩
  refine⟨_,rfl,a,_,_,_,rfl,rfl,qT.of ha,ig (j:=0) rfl rfl,_,rfl,_,rfl,a,_,_,_,rfl,rfl,qT.of ha,ig (j:=1) rfl rfl,k,_,rfl,mB.k (k:=Sum.inl (q:Int)) k4 (by have:sizeLine=16777216:=aaE;omega),?_⟩
  have s5:=s4.upd (o:=.dK (putK kk (Sum.inl (q:Int)) (V.int p))) Z1
  have d5:(upd H4 k (.dK (putK kk (Sum.inl (q:Int)) (V.int p)))) d=some (.dT kvs):=by rw[de hkd.symm];exact d4
  have k5:(upd H4 k (.dK (putK kk (Sum.inl (q:Int)) (V.int p)))) k=some (.dK (putK kk (Sum.inl (q:Int)) (V.int p))):=a_
  have a5:(upd H4 k (.dK (putK kk (Sum.inl (q:Int)) (V.int p)))) a=some (.tup [.int (p:Int),.int (q:Int)]):=by rw[de (λe=>by rw[e,k4] at ha;cases ha)];exact ha
  generalize upd H4 k (.dK (putK kk (Sum.inl (q:Int)) (V.int p)))=H5 at s5 d5 k5 a5
  have l5:=iQ kk (Sum.inl (q:Int):Key) (V.int p)
  refine⟨λZ H6=>∃v,Z=[rr o,rr n,rr d,rr k,some v]/\gg H5 H6/\Nx H6 v t,?_,?_⟩
  ·refine⟨_,rfl,_,rfl,_,rfl,_,rfl,a,_,_,_,rfl,rfl,qT.of a5,ig (j:=0) rfl rfl,_,_,rfl,rfl,_,rfl,a,_,_,_,rfl,rfl,qT.of a5,ig (j:=1) rfl rfl,_,_,rfl,rfl,?_⟩
   have nx:=next g' Cm
   exact⟨d,o,n,old,new,p+1,q+1,kvs,rfl,d5,Tz,s5 _ _ ho,s5 _ _ hn,lo,ln,hp,hq,λH4 s4 P1=>⟨_,rfl,s4,nx.1 H4 P1⟩,λi j t H4 s4 ht hT hF=>⟨_,rfl,s4,nx.2 i j t H4 ht hT hF⟩⟩
  rintro Z H6 ⟨v,rfl,s6,nx⟩
  refine⟨done++[(p,q)],t,v,_,p+1,q+1,rfl,rfl,s5.trans s6,s6 _ _ d5,s6 _ _ k5,λs=>?_,by rw[Vh];simp only [List.length_singleton];omega,by rw[eq,aaK];rfl,nx,g',Cm⟩
  have Pe:q∉done.map (·.2):=λz=>by
   obtain⟨w,hw,ew⟩:=List.mem_map.mp z
   have:=List.pairwise_append.mp (eq▸rise.1)
   have:=this.2.2 w hw (p,q) aae
   omega
  rw[jq,Gh Pe s]
  by_cases e:q=s
  ·rw[aag (by rw[e]),aag e];rfl
  ·rw[aac (λz=>e (by have:=Sum.inl.inj z;omega)),aac e,vk s]
theorem Av.put{H:Hp}{v:V}{l:Ln}{p:Addr}{xs:List V}{o:HO}(h:H p=some (.lst xs))(x:Av H v l):Av (L2.upd H p o) v l:=by
 obtain⟨t,e,ht⟩:=x
 exact⟨t,e,by rw[de (λz=>by rw[z,h] at ht;cases ht)];exact ht⟩
def OM:Sp:=λvs H Q _=>∃(r t:Addr)(x:Str)(row:List Ln)(texts:List Str),vs=[.ref r,.ref t,.str x]/\lS H r row/\H t=some (.lst (gi texts))/\row.length<=1000/\texts.length<=1000/\
 ∀p H',gg H H'->H p=none->lS H' p (PM.mg x (og row (K01.kept (row.map (·.tx)) texts)) 0 0 none texts)->Q (.ref p) H'
theorem L6(T:Txt mg)(O:Ok K mg A):iq P w K mg base lN 3 A.xH A.xI ["row","texts","patch"] OM:=by
 have Cq:=@JP P w K mg base A T O
 refine O.A5.f.pR jZ λjv A0 outer s H vs Q E hr h=>?_
 obtain⟨r,t,x,row,texts,rfl,Co,ht,lr,lt,q⟩:=h
 obtain⟨vr,tU,z8⟩:=id Co
 have Qh:=aaj z8
 have sz:sizeLine=16777216:=aaE
 refine⟨_,(c_ (lg 3 jZ (n_ O.zj Cq hr (ak (tw xo (f_ oA).names [7] rfl (iH (pv 0)) rfl (by decide+kernel) (λ_ _ _ _=>(iK (i:=7) jZ.nd rfl (Or.inl rfl))) (λ_ _ _ _=>oN) (λ_ _ _ _=>Bz (jA lW (pv 7) e_ (λ_ _=>rfl)))) (ak (pv 1) d_))))
   (c_ (lg 4 jZ (ji d_))
   (c_ (lg 5 jZ e_)
   (c_ (iI aap rfl (jS rfl T.jQ (ak (hG gq (by rfl) T.jW aaz (ak (pv 1) d_)) d_)) (uc 6 jZ) (eV (iJ (jw (pV (by exact iS hr) (pv 6) (pv 3))) (eV (iu (k7 aaq aax aay iP (pv 4) (ak (vY (pv 0) (Af hr (pv 3) (pv 6))) d_)))) (c_ (iu (k7 aaq aax aay iP (pv 4) (ak (kF (ak (pv 2) (ak (pv 5) (ak (vY (pv 1) (pv 6)) d_)))) d_)))
   (eV (lg 5 jZ (gn ik (pv 5) e_)))))))
   (eV (ia (pv 4))))))),?_⟩
 refine ME ?_;intro _ _ _ _
 let Jv:=λ(j:Nat) (ys:List V) (Z:St) (H8:Hp)=>∃(v7:Option V),Z=[rr r,rr t,rs x,none,none,none,none,v7]/\H8=H/\ys=gi ((row.take j).map (·.tx))
 refine⟨_,rfl,r,rfl,⟨_,h_.of tU⟩,ky (K:=K) (a:=r) (xs:=vr) (by omega) Jv
  ⟨none,rfl,rfl,rfl⟩ (by rintro _ _ _ _ _ ⟨_,_,e,e2⟩;rw[e,e2];exact⟨h_.of tU,by rw[QU,QU,aaA];omega⟩) ?_ ?_⟩
 ·rintro j v ys Z H8 hv ⟨v7,rfl,rfl,rfl⟩
  obtain⟨ln,uy,t1,rfl,Gm⟩:=il z8 hv
  refine⟨_,rfl,t1,_,_,_,rfl,rfl,qT.of Gm,ig (j:=2) rfl rfl,_,rfl,rfl,?_⟩
  rw[take_snoc uy,aar,i3]
  rfl
 rintro ys Z H8 ⟨v7,rfl,rfl,rfl⟩ tl Kz
 rw[Qh,aav]
 have s1:=(gg.refl H8).new (o:=.lst (gi (row.map (·.tx)))) Kz
 have u1:(upd H8 tl (.lst (gi (row.map (·.tx))))) tl=some (.lst (gi (row.map (·.tx)))):=a_
 generalize upd H8 tl (.lst (gi (row.map (·.tx))))=H1 at s1 u1
 refine⟨_,rfl,tl,t,row.map (·.tx),texts,rfl,u1,s1 _ _ ht,by rw[QU];exact lr,lt,λd H2 kk s2 hd h2 vk=>?_⟩
 have Kd:=s1.trans s2
 generalize Qd:K01.kept (row.map (·.tx)) texts=qs at vk
 rw[Qd] at q
 refine⟨L2.kL,λfo Xo=>?_⟩
 have Po:=Kd.free Xo
 have s3:=Kd.new (o:=.lst []) Xo
 have f3:(upd H2 fo (.lst [])) fo=some (.lst []):=a_
 have d3:=ip (u:=.lst []) Xo h2
 have hdH:=s1.free hd
 generalize upd H2 fo (.lst [])=H3 at s3 f3 d3
 refine⟨_,rfl,t,_,rfl,.inl (h_.of (s3 _ _ ht)),_,rfl,by omega,by rw[QU];omega,?_⟩
 rw[show((gi texts).length:Int).toNat=texts.length by rw[QU];omega]
 have rise:=nG (row.map (·.tx)) texts
 rw[QU,Qd] at rise
 let Jv:=λ(i:Nat) (Z:St) (H4:Hp)=>∃(v6 v7:Option V)(j:Nat)(u:Option Nm)(vs:List V)(done:List Ln),Z=[rr r,rr t,rs x,rr d,rr fo,ri j,v6,v7]/\gg H8 H4/\H4 d=some (.dK kk)/\H4 fo=some (.lst vs)/\Paired (Av H4) vs done/\done++PM.mg x (og row qs) i j u (texts.drop i)=PM.mg x (og row qs) 0 0 none texts/\done.length=i
 refine j2 Jv
  ⟨none,none,0,none,[],[],rfl,s3,d3,f3,.nil,rfl,rfl⟩ ?_ ?_
 ·rintro i Z H4 hi ⟨v6,v7,j,u,vs,done,rfl,s4,d4,f4,p4,e4,l4⟩
  rw[show(0:Int)+(i:Int)=(i:Int) by omega]
  have et:texts[i]?=some texts[i]:=R7 hi
  have ed:texts.drop i=texts[i]::texts.drop (i+1):=aaU hi
  have pl:=aaj p4
  rw[ed] at e4
  refine⟨_,rfl,_,rfl,d,_,rfl,jg.k (k:=Sum.inl (i:Int)) d4,_,rfl,?_⟩
  rw[vk i]
  cases hx:wM qs i with
  | some p=>
   have hp:p<row.length:=(rise.2 _ (JL hx)).1
   have hl:og row qs i=some row[p]:=by rw[JK,hx];exact R7 hp
   rw[(sP hl).1] at e4
   obtain⟨v,hv,hvt⟩:=k_ z8 (R7 hp)
   refine yP (by rfl) ?_
   refine⟨_,rfl,.inl ⟨rfl,_,h_.of f4⟩,_,rfl,_,rfl,_,rfl,d,V.int (p:Int),rfl,(by have:=jg.k (k:=Sum.inl (i:Int)) d4;rw[vk i,hx] at this;exact this),r,_,_,_,rfl,rfl,h_.of (s4 _ _ tU),ig rfl hv,fo,_,_,rfl,rfl,f4,by omega,?_⟩
   refine⟨_,_,j,some row[p].nm,vs++[v],done++[row[p]],rfl,s4.upd Po,by rw[de (λz=>by rw[z,f4] at d4;cases d4)];exact d4,a_,ix (Paired.j0 p4 λ_ _ z=>z.put f4) ((hvt.same s4).put f4),by rw[aaK];exact e4,by rw[Vh,l4];rfl⟩
  | none=>
   have hl:og row qs i=none:=by rw[JK,hx];rfl
   rw[(sQ hl).1] at e4
   refine o9 (by rfl) ?_
   refine⟨_,rfl,.inl ⟨rfl,_,h_.of f4⟩,_,rfl,_,rfl,_,rfl,_,rfl,t,_,_,_,rfl,rfl,h_.of (s4 _ _ ht),ig rfl (ju et),L2.kL,λnt Uj=>?_⟩
   have w5:=(gg.refl H4).new (o:=.tup [.str x,.int (j:Int),.str texts[i]]) Uj
   have u5:(upd H4 nt (.tup [.str x,.int (j:Int),.str texts[i]])) nt=some (.tup [.str x,.int (j:Int),.str texts[i]]):=a_
   generalize upd H4 nt (.tup [.str x,.int (j:Int),.str texts[i]])=H5 at w5 u5
   have f5:=w5 _ _ f4
   have d5:=w5 _ _ d4
   refine⟨fo,_,_,rfl,rfl,f5,by omega,?_⟩
   refine⟨_,rfl,_,_,rfl,rfl,?_⟩
   refine⟨_,_,j+1,some (x,j),vs++[.ref nt],done++[⟨(x,j),texts[i],u,EO (λs=>(og row qs s).map (·.nm)) (texts.drop (i+1)).length i⟩],rfl,(s4.trans w5).upd Po,by rw[de (λz=>by rw[z,f5] at d5;cases d5)];exact d5,a_,ix (Paired.j0 p4 λ_ _ z=>(z.same w5).put f5) (Av.put f5 ⟨nt,rfl,u5⟩),by rw[aaK];exact e4,by rw[Vh,l4];rfl⟩
 ·rintro Z H4 ⟨v6,v7,j,u,vs,done,rfl,s4,d4,f4,p4,e4,l4⟩
  rw[acq] at e4
  have e4:done=PM.mg x (og row qs) 0 0 none texts:=by rw[<-e4];exact(aaJ _).symm
  subst e4
  exact⟨_,rfl,q fo H4 s4 Po ⟨vs,f4,p4⟩⟩
def L7(K:Qqy):Sp:=λvs H Q _=>∃(a:Addr)(ns:List Int)(fi sz:Int),vs=[.ref a,.int fi,.int sz]/\h_ K H a (ns.map V.int)/\0<=fi/\0<=sz/\sz<=1000/\∀p H' (xs:List Str),gg H H'->H p=none->H' p=some (.lst (gi xs))->(xs.length:Int)=sz->Q (.ref p) H'
theorem JQ(T:Txt mg)(O:Ok K mg A):iq P w K mg base lN 2 A.vd A.ve ["script","first","size"] (L7 K):=by
 have iM:=@Gd P w K mg base A T O
 have oJ:=@Ge P w K mg base A T O
 refine O.zh.f.pR tH λjv A0 outer s H vs Q E hr h=>?_
 obtain⟨a,ns,fi,sz,rfl,ha,f0,z0,z1,q⟩:=h
 refine⟨_,(eV (ia (tw uY (f_ nE).names [3] rfl (jS rfl T.jQ (ak (pv 2) d_)) rfl (by decide+kernel) (λ_ _ _ _=>(iK (i:=3) tH.nd rfl (Or.inl rfl))) (λ_ _ _ _=>oN) (λ_ _ _ _=>Bz (n_ O.sE oJ hr (ak (gn ik (n_ O.i5 iM hr (ak (pv 0) (ak (gn ik (pv 1) (gn jo (pv 3) e_)) d_))) (gn vN e_ (gn j4 (pv 3) e_))) d_)))))),?_⟩
 refine⟨_,rfl,_,rfl,by omega,by omega,?_⟩
 let Jv:=λ(m:Nat) (ys:List V) (Z:St) (H2:Hp)=>∃(v:Option V)(xs:List Str),Z=[rr a,ri fi,ri sz,v]/\gg H H2/\ys=gi xs/\xs.length=m
 refine qY (by have:sizeLine=16777216:=aaE;omega) Jv
  ⟨none,[],rfl,gg.refl H,rfl,rfl⟩ (by rintro _ _ _ _ ⟨_,xs,_,_,e,e2⟩;rw[e,QU];omega) ?_ ?_
 ·rintro m ys Z H2 hm ⟨v,xs,rfl,s2,rfl,hx⟩
  have b:=mod_lt (0+(m:Int)) 20 (by decide)
  refine⟨_,rfl,_,rfl,_,rfl,_,_,rfl,rfl,(by show(0:Int)<20;decide),_,_,rfl,rfl,a,ns,_,rfl,s2.seq ha,by omega,?_⟩
  refine⟨_,rfl,_,_,rfl,rfl,⟨by decide,by decide⟩,_,_,rfl,rfl,.inl ⟨by decide,by decide⟩,_,_,rfl,rfl,_,rfl,λx H3 s3=>?_⟩
  exact⟨_,xs++[x],rfl,s2.trans s3,i3 _ _,by rw[Vh,hx];rfl⟩
 ·rintro ys Z H2 ⟨v,xs,rfl,s2,rfl,hx⟩ p hp
  exact q p _ xs (s2.new hp) (s2.free hp) a_ (by omega)
def Rx(A:Ad):Sp:=λvs H Q _=>∃(d:Addr)(D:Dk)(W:Addr->Prop)(s f:Str),vs=[.ref d,.str s,.str f]/\iY A H d D W/\sZ s/\Small D.made/\D.made.length<63/\Inv D/\s∈D.stores/\D.sV s f=[]/\∀H',gg H H'->Q .jb H'
theorem Fm(T:Txt mg)(O:Ok K mg A):iq P w K mg base lN 7 A.mF A.mG ["desk","store","file"] (Rx A):=by
 have n6:=(@E6 P w K mg base A T O).K8
 have n9:=@zw P w K mg base A T O
 have qw:=(@D9 P w K mg base A T O).K8
 have mW:=(@xP P w K mg base A T O).K8
 refine O.n5.f.pR qQ λjv A0 outer s H vs Q E hr h=>?_
 obtain⟨d,D,W,st,f,rfl,X,fs,sm,Xk,I,hs,hqu,q⟩:=h
 obtain⟨Y,y⟩:=id X
 have sz:sizeLine=16777216:=aaE
 refine⟨_,(c_ (iu (k7 aaq aax aay iP (IP (pv 0) O.iB O.vw n6 hr (ak (pv 1) d_)) (ak (pv 1) d_)))
   (c_ (iu (H_ aaq PySem.F.slot_list_clear PySem.F.type_list_clear Ia (uF (pv 0) O.iB O.lI.t n9 (hr.mono (by decide)) O.lI.b .nil o6)))
   (c_ (iu (k7 aaq aax aay iP (IP (pv 0) O.iB O.uk qw hr (ak (pv 1) d_)) (ak (pv 1) d_)))
   (eV (iu (k7 aaq aax aay iP (IP (pv 0) O.iB O.oS mW hr (ak (pv 1) (ak (pv 2) d_))) (ak (kF (ak e_ (ak e_ d_))) d_))))))),?_⟩
 refine PJ ?_;intro _ _ _
 have hhl:(D.has st).length<=D.made.length:=by rw[Dk.FT,QU];exact aaM _ _
 refine⟨_,rfl,d,Y.dx,_,rfl,y.hd,E5,_,rfl,d,D,W,st,rfl,X,fs,sm.many,λh=>absurd hs h,λ_ p1 vJ=>?_⟩
 refine⟨.inl ⟨rfl,_,h_.of a_⟩,_,rfl,p1,_,_,rfl,rfl,a_,by rw[QU];omega,?_⟩
 have s1:gg H (upd (upd H p1 (.lst (gi (D.has st)))) p1 (.lst (gi (D.has st)++[.str st]))):=((gg.refl H).new vJ).upd vJ
 generalize upd (upd H p1 (.lst (gi (D.has st)))) p1 (.lst (gi (D.has st)++[.str st]))=H1 at s1
 refine⟨_,rfl,d,Y.dx,_,rfl,s1 _ _ y.hd,zv,d,D,W,rfl,X.same s1,λp2 yp=>?_⟩
 refine⟨.inl ⟨rfl,_,h_.of a_⟩,p2,_,rfl,rfl,a_,?_⟩
 have s2:gg H (upd (upd H1 p2 (.lst (gi D.names))) p2 (.lst [])):=(s1.new yp).upd (s1.free yp)
 generalize upd (upd H1 p2 (.lst (gi D.names))) p2 (.lst [])=H2 at s2
 refine⟨_,rfl,d,Y.dx,_,rfl,s2 _ _ y.hd,DS,_,rfl,d,D,W,st,rfl,X.same s2,fs,sm,Xk,I,λh=>absurd hs h,λ_ p3 H3 fl s3 hp3 Tc F=>?_⟩
 have Gr:fl.length<sizeLine:=by
  have h1:=vD F.nd (ys:=(D.kc st).filterMap (·.file)) λx hx=>zH (λz=>(F.mem x).mp hx (by
   have:=(I.lD st x).length_eq
   exact aas.mp (by rw[this,z];rfl)))
  have h2:=Fi (·.file) (D.kc st)
  have h3:(D.kc st).length<=D.made.length:=(Inv.p9 st).length_le
  omega
 refine⟨.inl ⟨rfl,_,h_.of Tc⟩,_,rfl,p3,_,_,rfl,rfl,Tc,by rw[QU];exact Gr,?_⟩
 have s4:gg H (upd H3 p3 (.lst (gi fl++[.str st]))):=(s2.trans s3).upd (s2.free hp3)
 generalize upd H3 p3 (.lst (gi fl++[.str st]))=H4 at s4
 refine⟨_,rfl,d,Y.dx,_,rfl,s4 _ _ y.hd,xO,_,rfl,_,rfl,d,D,W,st,f,rfl,X.same s4,fs,sm,I,λh=>absurd hs h,λ_ p5 H5 vs s5 SM Td pa=>?_⟩
 refine⟨.inl ⟨rfl,_,h_.of Td⟩,L2.kL,λt ht=>?_⟩
 have hp6:=ip (u:=.tup [.int 0,.int 1]) ht Td
 refine⟨p5,_,_,rfl,rfl,hp6,?_,?_⟩
 ·have:=aaj pa
  rw[hqu] at this
  rw[<-this]
  show 0<sizeLine
  omega
 ·exact q _ (((s4.trans s5).new ht).upd (s4.free SM))
end
noncomputable def TJ(c:Int)(n:Nat):List Str:=(List.range n).map λ(j:Nat)=>nameOf c j
theorem JR(c:Int)(n:Nat):TJ c (n+1)=TJ c n++[nameOf c n]:=by
 unfold TJ
 rw[List.range_succ,aar]
 rfl
structure R3(c:Int)(st f0 f1:Str)(n:Nat)(D:Dk):Prop where
 inv:Inv D
 YL:D.stores=[st]
 AY:D.names=TJ c n
 held:∀x∈D.names,x∈D.held st
 qu:∀f∈[f0,f1],D.sV st f=[]
 rl:∀f∈[f0,f1],(D.row st f).length<=55
 fl:∀p∈D.made,∃f∈[f0,f1],p.file=some f
 many:D.made.length=n
 iF:(D.made.flatMap (·.iF)).length<=55*n
 jx:(D.made.flatMap (·.jx)).length<=55*n
section
variable{c:Int}{st f0 f1:Str}{n:Nat}{D:Dk}
theorem R3.small(h:R3 c st f0 f1 n D)(hn:n<=12):Small D.made/\(D.made.flatMap (·.iF)).length<=1000/\D.made.length<63:=by
 have:=h.iF
 have:=h.jx
 have:=h.many
 exact⟨⟨by show _<=4000;omega,by show _<=4000;omega,by show _<=4000;omega⟩,by omega,by omega⟩
theorem R3.sm(h:R3 c st f0 f1 n D):st∈D.stores:=by rw[h.YL];exact aae
theorem R3.fresh(h:R3 c st f0 f1 n D)(hn:n<36):nameOf c n∉D.names:=λhm=>by
 rw[h.AY] at hm
 obtain⟨j,hj,e⟩:=List.mem_map.mp hm
 have hj:=List.mem_range.mp hj
 have:=DV (by omega) (by omega) (by omega) (by omega) e
 omega
theorem R3.has(h:R3 c st f0 f1 n D):D.has st=D.names:=List.filter_eq_self.mpr λx hx=>V7 (h.held x hx)
theorem R3.step(h:R3 c st f0 f1 n D)(hn:n<36){f:Str}(hf:f∈[f0,f1]){texts:List Str}(hl:texts.length<=55) :
  R3 c st f0 f1 (n+1) (D.keep st (iU (nameOf c n) f (D.row st f) texts))/\Rt D (D.keep st (iU (nameOf c n) f (D.row st f) texts)) st f (nameOf c n) texts/\
   ∀f',f'≠f->(D.keep st (iU (nameOf c n) f (D.row st f) texts)).row st f'=D.row st f':=by
 have fr:=h.fresh hn
 have R:=JJ h.inv h.sm fr (h.qu f hf) texts
 have MV:∀f',f'≠f->(D.keep st (iU (nameOf c n) f (D.row st f) texts)).row st f'=D.row st f'/\(D.keep st (iU (nameOf c n) f (D.row st f) texts)).sV st f'=D.sV st f':=λf' qt=>(Hu (D:=D) (s:=st) (f:=f) (x:=nameOf c n) texts).Fh h.inv fr qt
 obtain⟨l1,l2⟩:=vF (x:=nameOf c n) (f:=f) (row:=D.row st f) (texts:=texts)
 have:=h.rl f hf
 refine⟨⟨h.inv.record h.sm fr (h.qu f hf) texts,h.YL,?_,λx hx=>?_,λf' Qi=>?_,λf' Qi=>?_,λp hp=>?_,?_,?_,?_⟩,R,λf' qt=>(MV f' qt).1⟩
 ·rw[uo,h.AY,JR];rfl
 ·show x∈(if st=st then D.held st++[nameOf c n] else D.held st)
  rw[aag rfl]
  rw[uo] at hx
  rcases YD.mp hx with hx|hx
  ·exact aan _ (h.held x hx)
  ·exact aaG _ hx
 ·by_cases e:f'=f
  ·rw[e];exact R.qu
  ·rw[(MV f' e).2];exact h.qu f' Qi
 ·by_cases e:f'=f
  ·rw[e]
   have:=aaQ List.length R.tx
   rw[QU] at this
   omega
  ·rw[(MV f' e).1];exact h.rl f' Qi
 ·rcases YD.mp hp with hp|hp
  ·exact h.fl p hp
  ·rw[Sd.mp hp]
   exact⟨f,hf,rfl⟩
 ·show(D.made++[_]).length=_
  rw[Vh,h.many];rfl
 ·show((D.made++[iU (nameOf c n) f (D.row st f) texts]).flatMap (·.iF)).length<=_
  rw[aa3,Vh,aaF,abC,aaJ]
  have:=h.iF
  omega
 ·show((D.made++[iU (nameOf c n) f (D.row st f) texts]).flatMap (·.jx)).length<=_
  rw[aa3,Vh,aaF,abC,aaJ]
  have:=h.jx
  omega
theorem R3.none(h:R3 c st f0 f1 n D){f:Str}(hf:f∉[f0,f1]):D.row st f=[]:=Gg h.inv λp hp e=>by
 obtain⟨g,hg,e2⟩:=h.fl p hp
 rw[e] at e2
 exact hf (by rw[aal e2];exact hg)
end
theorem lS.Ry{A:Ad}{H H':Hp}{d a:Addr}{D:Dk}{W:Addr->Prop}{row:List Ln}(X:iY A H d D W)(s:FZ W H H')(r:lS H a row):lS H' a row:=by
 obtain⟨vs,h,p⟩:=r
 exact⟨vs,s _ _ h (X.lst h),Paired.j0 p λv l ⟨t,e,h⟩=>⟨t,e,s _ _ h (X.tup h)⟩⟩
section
variable{P:Program}{w:World}{K:Qqy}{mg:Qqx}{base:Heap}{A:Ad}
structure W3(A:Ad)(H0:Hp)(c:Int)(d fs ro na:Addr)(rq:List Addr)(st f0 f1:Str)(n:Nat)(D:Dk)(R H:Hp)(W:Addr->Prop):Prop where
 ap:Apart R H
 same:gg H0 H
 Ea:iY A H d D W
 wn:∀b,W b->H0 b=none
 r:R3 c st f0 f1 n D
 hf:H fs=some (.lst (gi [f0,f1]))
 hr:R ro=some (.lst (rq.map V.ref))
 hn:R na=some (.lst (gi D.names))
 rl:rq.length=2
 w:∀(k:Nat) f r,[f0,f1][k]?=some f->rq[k]?=some r->lS H r (D.row st f)
 ne:ro≠na
section
variable{H0 R H H':Hp}{c:Int}{d fs ro na:Addr}{rq:List Addr}{st f0 f1:Str}{n:Nat}{D:Dk}{W:Addr->Prop}
theorem W3.go(h:W3 A H0 c d fs ro na rq st f0 f1 n D R H W)(s:gg H H')(ap:Apart R H'):W3 A H0 c d fs ro na rq st f0 f1 n D R H' W:=
 ⟨ap,h.same.trans s,h.Ea.same s,h.wn,h.r,s _ _ h.hf,h.hr,h.hn,h.rl,λk f r e1 e2=>(h.w k f r e1 e2).same s,h.ne⟩
theorem lS.out{a:Addr}{row:List Ln}(ap:Apart R H)(e:R a=none)(x:lS (ov R H) a row):lS H a row:=by
 obtain⟨vs,h,p⟩:=x
 exact⟨vs,by rw[lX e] at h;exact h,Paired.j0 p λv l ⟨t,e,h⟩=>⟨t,e,sA h (λ_ z=>by cases z) ap⟩⟩
theorem W3.back(h:W3 A H0 c d fs ro na rq st f0 f1 n D R H W)(s:gg (ov R H) H'):∃H1,H'=ov R H1/\W3 A H0 c d fs ro na rq st f0 f1 n D R H1 W/\gg H H1:=by
 obtain⟨H1,e,ap,s1⟩:=h.ap.back s
 exact⟨H1,e,h.go s1 ap,s1⟩
end
def Gi(K:Qqy):Sp:=λvs H Q _=>∃(a:Addr)(ns:List Int),vs=[.ref a]/\h_ K H a (ns.map V.int)/\ns.length<=63/\∀H',Q (.bl true) H'
theorem ON{f:Addr}{fd:FuncData}(F:xc K "law" "law" AZ f fd)(T:Txt mg)(O:Ok K mg A):iq P w K mg base lN 20 f fd ["script"] (Gi K):=by
 have yb:=@B3 P w K mg base A T O
 have Cr:=(@Ju P w K mg base A T O).K8
 have AB:=(@Hf P w K mg base A T O).K8.FQ
 have Fw:=(@Oz P w K mg base A T O).K8
 have mW:=(@xP P w K mg base A T O).K8
 have n6:=(@E6 P w K mg base A T O).K8
 have n9:=@zw P w K mg base A T O
 have qw:=(@D9 P w K mg base A T O).K8
 have iM:=@Gd P w K mg base A T O
 have so:=@LR P w K mg base A T O
 have Ei:=@LS P w K mg base A T O
 have Cs:=@JQ P w K mg base A T O
 have Ej:=@L6 P w K mg base A T O
 have yc:=@D_ P w K mg base A T O
 have mv:=@Cf P w K mg base A T O
 have sr:=@Fm P w K mg base A T O
 refine F.pR jJ λjv A0 outer s H vs Q E hr h=>?_
 obtain⟨a,ns,rfl,ha,hn,q⟩:=h
 have sz:sizeLine=16777216:=aaE
 refine⟨_,(c_ (lg 1 jJ (HW O.Oc yb (hr.mono (by decide)) rfl O.Od O.tP.b .nil o6))
   (c_ (lg 2 jJ (n_ O.sD so hr (ak (gn jo (n_ O.i5 iM hr (ak (pv 0) (ak e_ d_))) e_) (ak e_ d_))))
   (c_ (lU (i:=3) jJ.nd rfl (Or.inr rfl) (tw FU (f_ AZ).names [7] rfl (jS rfl T.jQ (ak e_ d_)) rfl (by decide+kernel) (λ_ _ _ _=>(iK (i:=7) jJ.nd rfl (Or.inl rfl))) (λ_ _ _ _=>oN) (λ_ _ _ _=>Bz (n_ O.sD so hr (ak (gn jo (n_ O.i5 iM hr (ak (pv 0) (ak e_ d_))) e_) (ak (pv 7) d_))))))
   (c_ (iu (IP (pv 1) O.iB O.zg Cr hr (ak (pv 2) d_)))
   (c_ (lU (i:=4) jJ.nd rfl (Or.inr rfl) (ji (ak (ji d_) (ak (ji d_) d_))))
   (c_ (lg 5 jJ (ji d_))
   (c_ (lg 6 jJ (gn ik e_ (gn jo (n_ O.i5 iM hr (ak (pv 0) (ak e_ d_))) e_)))
   (c_ (nK (iJ (ij lh (gn jo (n_ O.i5 iM hr (ak (pv 0) (ak e_ d_))) e_) e_ (iy _)) (eV (lg 6 jJ e_)) ie))
   (c_ (iI aap rfl (jS rfl T.jQ (ak (pv 6) d_)) (uc 7 jJ) (c_ (lg 8 jJ (n_ O.i5 iM hr (ak (pv 0) (ak (gn ik e_ (gn jo (pv 7) e_)) d_))))
   (c_ (lg 9 jJ (gn jo (pv 8) e_))
   (c_ (lg 10 jJ (n_ O.A4 Ei hr (ak (tw FU (f_ AZ).names [15] rfl (iH (vY (pv 4) (pv 9))) rfl (by decide+kernel) (λ_ _ _ _=>(iK (i:=15) jJ.nd rfl (Or.inl rfl))) (λ_ _ _ _=>oN) (λ_ _ _ _=>Bz (jA lW (pv 15) e_ (λ_ _=>rfl)))) (ak (gn j4 (pv 8) e_) d_))))
   (c_ (nK (iJ (ij HQ (hG gq (by rfl) T.jW aaz (ak (pv 10) d_)) (gn yz e_ (gn vN e_ (lV Gz (by rfl) T.MF PyProof.Rows.boot_int (ak (FF lh (pv 6) e_ (iy _)) d_)))) (iy _)) (eV (lg 10 jJ (lq nA (pv 10) nv (nz e_)))) ie))
   (c_ (nK (iJ ((pw_and (ij lh (pv 7) e_ (iy _)) (pw_and (ij AE (pv 6) e_ (iy _)) (pw_and1 (ij lh (gn jo (gn j4 (n_ O.i5 iM hr (ak (pv 0) (ak e_ d_))) e_) e_) e_ (iy _))))).pt) (eV (lg 10 jJ (n_ O.zh Cs hr (ak (pv 0) (ak e_ (ak (gn ik e_ (gn jo (gn j4 (n_ O.i5 iM hr (ak (pv 0) (ak e_ d_))) e_) e_)) d_)))))) ie))
   (c_ (lg 11 jJ (n_ O.sD so hr (ak (gn jo (n_ O.i5 iM hr (ak (pv 0) (ak e_ d_))) e_) (ak (pv 7) d_))))
   (c_ (lg 12 jJ (lV uI (by rfl) T.ug abr (ak (pv 10) d_)))
   (c_ (iJ ((pw_or (jw (nu (IP (pv 1) O.iB O.xK AB hr (ak (pv 2) (ak (pv 11) (ak (vY (pv 3) (pv 9)) (ak (pv 12) d_))))))) (pw_or1 (ij (EF 9 (by exact QR hr)) (pv 12) (pv 10) (iy _)))).pt) (eV (ia mz)) ie)
   (c_ (iu (k7 aaq aax aay iP (pv 12) (ak jn d_)))
   (c_ (iu (k7 aaq aax aay iP (pv 5) (ak (pv 11) d_)))
   (c_ (yu (n_ O.A5 Ej hr (ak (vY (pv 4) (pv 9)) (ak (pv 10) (ak (pv 11) d_)))) (yt (pv 4) (pv 9) set_list))
   (c_ (iI aap rfl (jS rfl T.jQ (ak e_ d_)) (uc 13 jJ) (c_ (lg 14 jJ (IP (pv 1) O.iB O.DB Fw hr (ak (pv 2) (ak (vY (pv 3) (pv 13)) d_))))
   (c_ (iJ ((pw_or (mH (nH (n_ O.tQ yc hr (ak (pv 14) d_)))) (pw_or (ij (EF 9 (by exact QR hr)) (pv 14) (vY (pv 4) (pv 13)) (iy _)) (pw_or1 (ij (EF 9 (by exact QR hr)) (IP (pv 1) O.iB O.oS mW hr (ak (pv 2) (ak (vY (pv 3) (pv 13)) d_))) (ji d_) (iy _))))).pt) (eV (ia mz)) ie)
   (eV (iu (k7 aaq aax aay iP (pv 14) (ak (kF (ak jn (ak e_ (ak jn d_)))) d_)))))))
   (c_ (iJ ((pw_or (mH (nH (n_ O.lJ mv hr (ak (IP (pv 1) O.iB O.vw n6 hr (ak (pv 2) d_)) (ak (pv 5) d_))))) (pw_or1 (mH (nH (n_ O.lJ mv hr (ak (uF (pv 1) O.iB O.lI.t n9 (hr.mono (by decide)) O.lI.b .nil o6) (ak (pv 5) d_))))))).pt) (eV (ia mz)) ie)
   (eV (iu (n_ O.n5 sr hr (ak (pv 1) (ak (pv 2) (ak (vY (pv 3) (pv 9)) d_))))))))))))))))))))
   (eV (ia (n_ O.lJ mv hr (ak (IP (pv 1) O.iB O.uk qw hr (ak (pv 2) d_)) (ak (hG D5 (by rfl) T.Du PyProof.Rows.boot_sorted (ak (vT FU (f_ AZ).names [7] rfl (jS rfl T.jQ (ak e_ d_)) rfl (by decide+kernel) (λ_ _ _ _=>(iK (i:=7) jJ.nd rfl (Or.inl rfl))) (λ_ _ _ _=>⟨_,oO (ij HQ (hG gq (by rfl) T.jW aaz (ak (vY (pv 4) (pv 7)) d_)) e_ (iy _)),by(try simp only [kR]);rfl⟩) (λ_ _ _ _=>Bz (vY (pv 3) (pv 7)))) d_)) d_)))))))))))))),?_⟩
 refine Vg ?_;intro _ _ _ _ _ _ _ _ _
 intro d px nd WS nxd
 refine⟨d,px,rfl,a_,λH1 W X1 hW k1=>⟨rfl,?_⟩⟩
 have s0:gg H (upd (upd H px (.own d)) d (.ins A.g_ px [])):=λb o e=>by rw[de (gc e nd),de (gc e WS)];exact e
 have s1:gg H H1:=λb o e=>k1 b o (s0 b o e) (gc e nd)
 have Z2:∀b,W b->H b=none:=λb hb=>s0.free (hW b hb)
 have Qe:=vG ha s1
 refine⟨_,rfl,a,ns,0,rfl,Qe,by decide,_,_,rfl,rfl,(by show(0:Int)<20736;decide),_,_,rfl,?_⟩
 have Ml:=sM (wJ ns 0) 1
 generalize nameOf (cellAt ns 0%20736) 1=st at Ml
 refine⟨_,rfl,by decide,by decide,?_⟩
 let Jv:=λ(m:Nat) (ys:List V) (Z:St) (H2:Hp)=>∃(v7:Option V),Z=[rr a,rr d,rs st,none,none,none,none,v7,none,none,none,none,none,none,none,none]/\H2=H1/\ys=gi ((List.range m).map λ(j:Nat)=>nameOf (wJ ns 1) j)
 refine qY (n:=2) (by decide) Jv ⟨none,rfl,rfl,rfl⟩ (by rintro _ _ _ _ ⟨_,_,_,e⟩;rw[e];simp) ?_ ?_
 ·rintro m ys Z H2 hm ⟨v7,rfl,rfl,rfl⟩
  refine⟨_,rfl,a,ns,1,rfl,Qe,by decide,_,_,rfl,rfl,(by show(0:Int)<20736;decide),_,rfl,_,_,rfl,?_⟩
  refine⟨_,rfl,rfl,?_⟩
  rw[List.range_succ,aar,<-o_]
  show _++[V.str (nameOf (wJ ns 1) (0+(m:Int)))]=_
  rw[Int.zero_add]
  rfl
 rintro ys Z H2 ⟨v7,rfl,rfl,rfl⟩ fs Hz
 have Ut:=sM (wJ ns 1) 0
 have Z3:=sM (wJ ns 1) 1
 have Te:nameOf (wJ ns 1) 0≠nameOf (wJ ns 1) 1:=λe=>by
  have:=DV (by decide) (by decide) (by decide) (by decide) e
  cases this
 have efl:gi ((List.range 2).map λ(j:Nat)=>nameOf (wJ ns 1) j)=gi [nameOf (wJ ns 1) 0,nameOf (wJ ns 1) 1]:=rfl
 rw[efl]
 generalize nameOf (wJ ns 1) 0=f0 at Ut Te
 generalize nameOf (wJ ns 1) 1=f1 at Z3 Te
 have s2:=s1.new (o:=.lst (gi [f0,f1])) Hz
 have X2:=X1.same ((gg.refl H2).new (o:=.lst (gi [f0,f1])) Hz)
 have Pp:(upd H2 fs (.lst (gi [f0,f1]))) fs=some (.lst (gi [f0,f1])):=a_
 generalize upd H2 fs (.lst (gi [f0,f1]))=H3 at s2 X2 Pp
 obtain⟨Y,y⟩:=id X2
 refine⟨_,rfl,d,Y.dx,_,rfl,y.hd,Js,_,rfl,d,Ow,W,st,rfl,X2,Ml.B_,by show 0<1000;decide,λh=>absurd Ml h,(λ_ h=>by cases h),λ_ _ H4 W4 X4 s4 hW4=>?_⟩
 have hW5:∀b,W4 b->H b=none:=λb hb=>(hW4 b hb).elim (Z2 b) λh=>s2.free h
 have s5:gg H H4:=λb o e=>s4 b o (s2 _ _ e) λhb=>by rw[Z2 b hb] at e;cases e
 have Xp:=s4 _ _ Pp (X2.lst Pp)
 refine⟨L2.kL,λr0 qS=>⟨L2.kL,λr1 tU=>⟨L2.kL,λro Z4=>⟨L2.kL,λna Tf=>?_⟩⟩⟩⟩
 have t6:gg H4 (upd (upd H4 r0 (.lst [])) r1 (.lst [])):=((gg.refl H4).new qS).new tU
 have Tg:(upd (upd H4 r0 (.lst [])) r1 (.lst [])) r0=some (.lst []):=ip tU a_
 have Th:(upd (upd H4 r0 (.lst [])) r1 (.lst [])) r1=some (.lst []):=a_
 generalize upd (upd H4 r0 (.lst [])) r1 (.lst [])=H6 at t6 Tg Th Z4 Tf
 rw[show upd (upd H6 ro (.lst [V.ref r0,V.ref r1])) na (.lst [])=ov (upd (upd (λ_=>none) ro (.lst [V.ref r0,V.ref r1])) na (.lst [])) H6 by rw[<-vZ,<-vZ,EN]]
 have Xq:ro≠na:=λe=>by rw[<-e,a_] at Tf;cases Tf
 have Xr:H6 na=none:=by rw[de Xq.symm] at Tf;exact Tf
 have nil:∀f,(Ow.begin st).row st f=[]:=λf=>rfl
 have R0:R3 (wJ ns 3) st f0 f1 0 (Ow.begin st):=⟨Vt.begin (by intro h;cases h),rfl,rfl,(λx hx=>by cases hx),(λf _=>rfl),(λf _=>by rw[nil];exact aaI _),(λp hp=>by cases hp),rfl,Vb _,Vb _⟩
 have w0:W3 A H (wJ ns 3) d fs ro na [r0,r1] st f0 f1 0 (Ow.begin st) (upd (upd (λ_=>none) ro (.lst [V.ref r0,V.ref r1])) na (.lst [])) H6 W4:=
  ⟨(
   Apart.nil.put Z4 _).put Xr _,s5.trans t6,X4.same t6,hW5,R0,t6 _ _ Xp,by rw[de Xq];exact a_,a_,rfl,λk f r e1 e2=>by
   rw[nil]
   match k,e2 with
   | 0,e2=>cases e2;exact⟨[],Tg,.nil⟩
   | 1,e2=>cases e2;exact⟨[],Th,.nil⟩,Xq⟩
 generalize (upd (upd (λ_=>none) ro (.lst [V.ref r0,V.ref r1])) na (.lst []))=R at w0
 generalize [r0,r1]=rq at w0
 have Z5:=vG ha (w0.same.trans w0.ap.same)
 have b6:=mod_lt (cellAt ns 2) 6 (by decide)
 refine⟨_,rfl,a,ns,2,rfl,Z5,by decide,_,_,rfl,rfl,(by show(0:Int)<6;decide),_,_,rfl,rfl,?_⟩
 refine⟨λZ H7=>∃m:Nat,m<=12/\Z=[rr a,rr d,rs st,rr fs,rr ro,rr na,ri m,none,none,none,none,none,none,none,none,none]/\H7=ov R H6,?_,?_⟩
 ·refine⟨_,rfl,a,ns,3,rfl,Z5,by decide,_,_,rfl,rfl,(by show(0:Int)<9;decide),rfl,_,rfl,?_⟩
  refine lb (λ_=>⟨12,by decide,rfl,rfl⟩) (λ_=>⟨(1+cellAt ns 2%6).toNat,by omega,?_,rfl⟩)
  rw[Int.toNat_of_nonneg (by omega)]
  rfl
 rintro Z H7 ⟨m,hm,rfl,rfl⟩
 refine⟨_,rfl,_,rfl,by omega,by omega,?_⟩
 rw[abX]
 let Jv:=λ(i:Nat) (Z:St) (H7:Hp)=>∃(v7 v8 v9 v10 v11 Mm HC HD:Option V)(rq:List Addr)(R Hd:Hp)(D:Dk)(W:Addr->Prop),Z=[rr a,rr d,rs st,rr fs,rr ro,rr na,ri m,v7,v8,v9,v10,v11,Mm,HC,HD,none]/\H7=ov R Hd/\W3 A H (wJ ns 3) d fs ro na rq st f0 f1 i D R Hd W
 refine j2 Jv
  ⟨none,none,none,none,none,none,none,none,rq,R,H6,_,W4,rfl,rfl,w0⟩ ?_ ?_
 ·rintro i Z H7 hi ⟨v7,v8,v9,v10,v11,Mm,HC,HD,rq,R,Hd,D,W,rfl,rfl,w⟩
  rw[show(0:Int)+(i:Int)=(i:Int) by omega]
  have Xs:=vG ha (w.same.trans w.ap.same)
  have b50:=mod_lt (i:Int) 50 (by decide)
  refine⟨_,rfl,_,rfl,_,_,rfl,rfl,(by show(0:Int)<50;decide),_,_,rfl,rfl,a,ns,_,rfl,Xs,by omega,?_⟩
  generalize cellAt ns (4+(i:Int)%50)=cell
  refine⟨_,rfl,_,_,rfl,rfl,(by show(0:Int)<2;decide),?_⟩
  have b2:=mod_lt cell 2 (by decide)
  obtain⟨k,hk⟩:∃k:Nat,cell%2=(k:Int):=⟨_,(Int.toNat_of_nonneg b2.1).symm⟩
  rw[hk] at b2
  have Gk:k<2:=by omega
  obtain⟨fl,Gr⟩:∃fl,[f0,f1][k]?=some fl:=⟨_,R7 Gk⟩
  obtain⟨r,En⟩:∃r,rq[k]?=some r:=⟨_,R7 (by rw[w.rl];exact Gk)⟩
  have Z6:Good fl:=by
   rcases V9.mp (Xj Gr) with e|e
   ·rw[e];exact Ut
   ·rw[Sd.mp e];exact Z3
  have Ux:=Xj Gr
  have Co:=w.w k fl r Gr En
  obtain⟨vr,tU,z8⟩:=id Co
  have Qh:=aaj z8
  have Fs:=w.r.rl fl Ux
  rw[hk]
  let Jv:=λ(j:Nat) (ys:List V) (Z:St) (H8:Hp)=>∃(Xt:Option V),Z=[rr a,rr d,rs st,rr fs,rr ro,rr na,ri m,ri i,ri cell,ri k,v10,v11,Mm,HC,HD,Xt]/\H8=ov R Hd/\ys=gi (((D.row st fl).take j).map (·.tx))
  refine⟨_,rfl,_,rfl,ro,_,_,_,rfl,rfl,h_.of (kE w.hr),ig rfl (by rw[YI,En];rfl),r,rfl,⟨_,h_.of (w.ap.at tU)⟩,ky (K:=K) (a:=r) (xs:=vr) (by omega) Jv
   ⟨_,rfl,rfl,rfl⟩ (by rintro _ _ _ _ _ ⟨_,_,e,e2⟩;rw[e,e2];exact⟨h_.of (w.ap.at tU),by rw[QU,QU,aaA];omega⟩) ?_ ?_⟩
  ·rintro j v ys Z H8 hv ⟨Xt,rfl,rfl,rfl⟩
   obtain⟨ln,uy,t,rfl,ht⟩:=il z8 hv
   refine⟨_,rfl,t,_,_,_,rfl,rfl,qT.of (w.ap.at ht),ig (j:=2) rfl rfl,_,rfl,rfl,?_⟩
   rw[take_snoc uy,aar,i3]
   rfl
  rintro ys Z H8 ⟨Xt,rfl,rfl,rfl⟩ tl Kz
  rw[Qh,aav]
  have w8:=(gg.refl (ov R Hd)).new (o:=.lst (gi ((D.row st fl).map (·.tx)))) Kz
  have u8:(upd (ov R Hd) tl (.lst (gi ((D.row st fl).map (·.tx))))) tl=some (.lst (gi ((D.row st fl).map (·.tx)))):=a_
  generalize upd (ov R Hd) tl (.lst (gi ((D.row st fl).map (·.tx))))=H8 at w8 u8
  refine⟨_,rfl,_,_,rfl,rfl,⟨by decide,by decide⟩,tl,(D.row st fl).map (·.tx),_,rfl,u8,by rw[QU];omega,λt9 H9 Pq s9 hn9 Xu ed=>?_⟩
  have RZ:=ed.len
  rw[QU] at RZ
  have w9:=w8.trans s9
  refine⟨λZ Fu=>∃(t:Addr)(ts:List Str),Z=[rr a,rr d,rs st,rr fs,rr ro,rr na,ri m,ri i,ri cell,ri k,rr t,v11,Mm,HC,HD,none]/\gg (ov R Hd) Fu/\Fu t=some (.lst (gi ts))/\ts.length<=55/\(D.row st fl).map (·.tx)≠ts/\ov R Hd t=none,?_,?_⟩
  ·refine⟨_,rfl,t9,_,rfl,.inl (h_.of Xu),_,rfl,rfl,.inr ⟨_,rfl,_,_,rfl,rfl,.inl ⟨by decide,by decide⟩,_,_,rfl,rfl,_,_,rfl,rfl,_,rfl,?_⟩⟩
   have e9:((gi Pq).length:Int)=(Pq.length:Int):=by simp
   rw[e9]
   generalize hb:decide (V.int (m:Int)=V.int 12)=b
   refine lb (λh=>?_) (λh=>?_)
   ·have h:(55:Int)-46*(if b=true then 1 else 0)<(Pq.length:Int):=aau h
    have h9:9<Pq.length:=by
     cases b
     ·rw[aac (by decide)] at h;omega
     ·rw[aag rfl] at h;omega
    refine⟨_,rfl,_,rfl,t9,_,rfl,h_.of Xu,λp hp=>?_⟩
    rw[show(4:Int)=((4:Nat):Int) from rfl,se]
    refine⟨p,Pq.take 4,rfl,w9.new hp,a_,by rw[aaA];omega,λz=>?_,w9.free hp⟩
    have:=aaQ List.length z
    rw[QU,aaA] at this
    omega
   ·have h:¬(55:Int)-46*(if b=true then 1 else 0)<(Pq.length:Int):=λz=>h (V7 z)
    refine⟨t9,Pq,rfl,w9,Xu,?_,ed.ne,w8.free hn9⟩
    cases b
    ·rw[aac (by decide)] at h;omega
    ·rw[aag rfl] at h;omega
  rintro Z Fu ⟨Z7,Xv,rfl,Kg,Xw,Xx,Xy,Xz⟩
  have Pr:=vG Xs Kg
  refine⟨λZ Pj=>∃(t:Addr)(ts:List Str),Z=[rr a,rr d,rs st,rr fs,rr ro,rr na,ri m,ri i,ri cell,ri k,rr t,v11,Mm,HC,HD,none]/\gg (ov R Hd) Pj/\Pj t=some (.lst (gi ts))/\ts.length<=55/\(D.row st fl).map (·.tx)≠ts/\ov R Hd t=none,?_,?_⟩
  ·have qU:∃(t:Addr)(ts:List Str),[some (.ref a),some (.ref d),some (.str st),some (.ref fs),some (.ref ro),some (.ref na),some (.int m),some (.int i),some (.int cell),some (.int k),some (.ref Z7),v11,Mm,HC,HD,none]=[some (.ref a),some (.ref d),some (.str st),some (.ref fs),some (.ref ro),some (.ref na),some (.int m),some (.int i),some (.int cell),some (.int k),some (.ref t),v11,Mm,HC,HD,none]/\gg (ov R Hd) Fu/\Fu t=some (.lst (gi ts))/\ts.length<=55/\(D.row st fl).map (·.tx)≠ts/\ov R Hd t=none:=⟨Z7,Xv,rfl,Kg,Xw,Xx,Xy,Xz⟩
   refine⟨_,rfl,rfl,_,rfl,?_⟩
   refine lb (λh0=>?_) (λ_=>j_ qU)
   have h0:i=0:=by have:=V.int.inj (aau h0);omega
   refine⟨_,rfl,_,_,rfl,rfl,_,rfl,?_⟩
   refine lb (λ_=>?_) (λ_=>j_ qU)
   refine⟨_,rfl,a,ns,2,rfl,Pr,by decide,_,_,rfl,rfl,⟨by decide,by decide⟩,_,_,rfl,rfl,(by show(0:Int)<5;decide),rfl,_,rfl,?_⟩
   refine lb (λ_=>?_) (λ_=>qU)
   have b40:=mod_lt (cellAt ns 2/30) 40 (by decide)
   refine⟨_,rfl,_,rfl,a,ns,2,rfl,Pr,by decide,_,_,rfl,rfl,⟨by decide,by decide⟩,_,_,rfl,rfl,(by show(0:Int)<40;decide),_,_,rfl,rfl,a,ns,_,_,rfl,Pr,by decide,by omega,by omega,λp Pj xs KG hp vJ hx=>?_⟩
   refine⟨p,xs,rfl,Kg.trans KG,vJ,by omega,λz=>?_,Kg.free hp⟩
   have z0:=aaQ List.length z
   have:D.row st fl=[]:=Gg w.r.inv λq hq=>by
    have:=w.r.many
    rw[h0] at this
    rw[aas.mp this] at hq
    cases hq
   rw[QU,this] at z0
   simp only [acs] at z0
   omega
  rintro Z Pj ⟨Qj,ts,rfl,Z8,Pu,XA,XC,XD⟩
  have XE:=vG Xs Z8
  have Ti:i<36:=by omega
  have gx:=sM (wJ ns 3) (i:Int)
  refine⟨_,rfl,a,ns,3,rfl,XE,by decide,_,_,rfl,rfl,(by show(0:Int)<20736;decide),_,rfl,_,_,rfl,?_⟩
  obtain⟨Qk,rfl,w1,u1⟩:=w.back Z8
  have Gm:Qk Qj=some (.lst (gi ts)):=by rw[lX (mw XD).1] at Pu;exact Pu
  refine⟨_,rfl,Qj,_,rfl,.inl (h_.of Pu),λt ht=>?_⟩
  obtain⟨Uy,Uz⟩:=mw ht
  rw[IQ Uy]
  have ntt:Qj≠t:=λe=>by rw[<-e,Gm] at Uz;cases Uz
  have s2:gg Qk (upd Qk t (.lst (gi ts))):=(gg.refl Qk).new Uz
  have XF:=w1.ap.new (o:=.lst (gi ts)) Uy
  obtain⟨Y1,y1⟩:=id w1.Ea
  obtain⟨m1,m2,m3⟩:=w1.r.small (by omega)
  refine⟨_,rfl,d,Y1.dx,_,rfl,XF.at (s2 _ _ y1.hd),Hc,_,rfl,_,rfl,_,rfl,_,rfl,fs,_,_,_,rfl,rfl,h_.of (XF.at (s2 _ _ w1.hf)),ig rfl (ju Gr),_,rfl,R,upd Qk t (.lst (gi ts)),XF,rfl,d,t,D,W,st,nameOf (wJ ns 3) i,fl,ts,Qk,rfl,rfl,Uz,w1.Ea,w1.r.inv,m1,m2,Ml.B_,gx.B_,Z6.B_,by omega,w1.r.sm,gx,Z6,w1.r.fresh Ti,w1.r.qu fl Ux,XC,λH2 X2 s3 Pw Tj=>?_⟩
  have Nb:=s3 _ _ Gm (w1.Ea.lst Gm)
  refine⟨_,rfl,o9 (by rfl) ?_⟩
  refine⟨_,rfl,_,rfl,_,⟨t,Qj,rfl,rfl⟩,yl (h_.of (Tj.at a_)) (h_.of (Tj.at (ip Pw Nb))),_,rfl,o9 (by simp) ?_⟩
  refine⟨_,rfl,.inl ⟨rfl,_,h_.of (Tj.at a_)⟩,t,_,_,rfl,rfl,Tj.at a_,by rw[QU];omega,?_⟩
  rw[IQ Uy]
  have s4:gg H2 (upd (upd H2 t (.lst (gi ts))) t (.lst (gi ts++[V.str (Str.ofString "a")]))):=((gg.refl H2).new Pw).upd Pw
  have XG:Apart R (upd (upd H2 t (.lst (gi ts))) t (.lst (gi ts++[V.str (Str.ofString "a")]))):=Tj.new Uy
  generalize upd (upd H2 t (.lst (gi ts))) t (.lst (gi ts++[V.str (Str.ofString "a")]))=Hd2 at s4 XG
  have P_:(gi D.names).length<sizeLine:=by rw[QU];unfold Dk.names;rw[QU];omega
  refine⟨_,rfl,.inl ⟨rfl,_,h_.of (kE w1.hn)⟩,_,rfl,na,_,_,rfl,rfl,kE w1.hn,P_,?_⟩
  rw[vZ,i3]
  have UA:=XG.put (XG.jb _ _ w1.hn) (gi (D.names++[nameOf (cellAt ns 3%20736) i]))
  have Kh:(upd R na (.lst (gi (D.names++[nameOf (cellAt ns 3%20736) i])))) ro=some (.lst (rq.map V.ref)):=by rw[de w1.ne];exact w1.hr
  have Tn:(upd R na (.lst (gi (D.names++[nameOf (cellAt ns 3%20736) i])))) na=some (.lst (gi (D.names++[nameOf (wJ ns 3) i]))):=a_
  generalize upd R na (.lst (gi (D.names++[nameOf (cellAt ns 3%20736) i])))=R2 at UA Kh Tn
  have kept:∀{r':Addr} {f':Str} {k':Nat},[f0,f1][k']?=some f'->rq[k']?=some r'->lS Hd2 r' (D.row st f'):=λe1 e2=>(lS.Ry w1.Ea s3 (w1.w _ _ _ e1 e2)).same s4
  refine⟨_,rfl,_,rfl,ro,_,_,_,rfl,rfl,h_.of (kE Kh),ig rfl (by rw[YI,En];rfl),_,rfl,_,rfl,r,Qj,_,D.row st fl,ts,rfl,(kept Gr En).same UA.same,UA.at (s4 _ _ Nb),by omega,by omega,λp H5 s5 hp vJ=>?_⟩
  obtain⟨XH,rfl,XI,u3⟩:=UA.back s5
  refine⟨_,rfl,_,rfl,ro,_,_,k,rfl,rfl,kE Kh,yO rfl (by rw[QU,w1.rl];exact Gk),?_⟩
  rw[vZ]
  have ev:(rq.map V.ref).set k (V.ref p)=(rq.set k p).map V.ref:=by rw[List.map_set]
  rw[ev]
  have nrp:ro≠p:=λe=>by rw[<-e,kE Kh] at hp;cases hp
  obtain⟨Fq,zI,Mt⟩:=w1.r.step Ti Ux XA
  have wN:W3 A H (wJ ns 3) d fs ro na (rq.set k p) st f0 f1 (i+1) (D.keep st (iU (nameOf (wJ ns 3) i) fl (D.row st fl) ts)) (upd R2 ro (.lst ((rq.set k p).map V.ref))) XH W:=by
   refine⟨XI.put (XI.jb _ _ Kh) _,λb o e=>?_,(X2.same s4).same u3,w1.wn,Fq,?_,a_,?_,by rw[ace];exact w1.rl,λk' f' r' e1 e2=>?_,w1.ne⟩
   ·exact u3 _ _ (s4 _ _ (s3 b o (w1.same _ _ e) λhb=>by rw[w1.wn b hb] at e;cases e))
   ·exact u3 _ _ (s4 _ _ (s3 _ _ w1.hf (w1.Ea.lst w1.hf)))
   ·rw[de w1.ne.symm,uo];exact Tn
   ·by_cases ek:k'=k
    ·subst ek
     rw[Gr] at e1
     cases e1
     rw[aa6 (by rw[w1.rl];exact Gk)] at e2
     cases e2
     rw[zI.row]
     exact lS.out XI (mw hp).1 vJ
    ·rw[abc (abE ek)] at e2
     have qt:f'≠fl:=λe=>by
      subst e
      have Uu:=(List.getElem?_eq_some_iff.mp e1).1
      simp only [W7,acs] at Uu
      match k,k',Gk,Uu,Gr,e1 with
      | 0,0,_,_,_,_=>exact ek rfl
      | 0,1,_,_,a1,a2=>cases a1;cases a2;exact Te rfl
      | 1,0,_,_,a1,a2=>cases a1;cases a2;exact Te rfl
      | 1,1,_,_,_,_=>exact ek rfl
     rw[Mt f' qt]
     exact(kept e1 e2).same u3
  generalize D.keep st (iU (nameOf (wJ ns 3) i) fl (D.row st fl) ts)=D2 at wN
  generalize upd R2 ro (.lst ((rq.set k p).map V.ref))=Z9 at wN
  generalize rq.set k p=Z_ at wN
  have X6:=wN.Ea.same wN.ap.same
  obtain⟨Y6,y6⟩:=id X6
  obtain⟨m6,m7,m8⟩:=wN.r.small (by omega)
  have XJ:∀f∈[f0,f1],(D2.row st f).length<=55:=wN.r.rl
  refine⟨_,rfl,by decide,by decide,?_⟩
  let Jv:=λ(u:Nat) (Z:St) (H9:Hp)=>∃(HC HD:Option V),Z=[rr a,rr d,rs st,rr fs,rr ro,rr na,ri m,ri i,ri cell,ri k,rr Qj,rs (nameOf (wJ ns 3) i),rr t,HC,HD,none]/\gg (ov Z9 XH) H9
  refine j2 (n:=2) Jv
   ⟨_,_,rfl,gg.refl _⟩ ?_ ?_
  ·rintro u Z H9 hu ⟨HC,HD,rfl,s9⟩
   rw[show(0:Int)+(u:Int)=(u:Int) by omega]
   obtain⟨fu,Nc⟩:∃fu,[f0,f1][u]?=some fu:=⟨_,R7 hu⟩
   obtain⟨ru,To⟩:∃ru,Z_[u]?=some ru:=⟨_,R7 (by rw[wN.rl];exact hu)⟩
   have mfu:=Xj Nc
   have hlu:=XJ fu mfu
   refine⟨_,rfl,d,Y6.dx,_,rfl,s9 _ _ y6.hd,Ov,_,rfl,_,rfl,_,rfl,fs,_,_,_,rfl,rfl,h_.of (s9 _ _ (wN.ap.at wN.hf)),ig rfl (ju Nc),d,D2,W,st,fu,rfl,X6.same s9,Ml.B_,m6,wN.r.inv,λh=>absurd wN.r.sm h,λ_ q0 Fu Bj WY Ud=>?_⟩
   have Kg:=s9.trans Bj
   have XM:=((wN.w u fu ru Nc To).same wN.ap.same).same Kg
   have XN:=Kg _ _ (kE (H:=XH) wN.hr)
   refine⟨_,rfl,_,2,D2.row st fu,rfl,Ud.rep,?_⟩
   refine⟨_,rfl,o9 (by rfl) ?_⟩
   obtain⟨vq,XO,XQ⟩:=id Ud
   have hvq:=aaj XQ
   refine⟨_,rfl,_,rfl,_,rfl,ro,_,_,_,rfl,rfl,h_.of XN,ig rfl (by rw[YI,To];rfl),_,⟨q0,ru,rfl,rfl⟩,(Ud.rep.mono (by decide)).eq (XM.rep.mono (by decide)),_,rfl,o9 (by rfl) ?_⟩
   refine⟨_,rfl,d,Y6.dx,_,rfl,Kg _ _ y6.hd,xO,_,rfl,_,rfl,_,rfl,fs,_,_,_,rfl,rfl,h_.of (Kg _ _ (wN.ap.at wN.hf)),ig rfl (ju Nc),d,D2,W,st,fu,rfl,X6.same Kg,Ml.B_,m6,wN.r.inv,λh=>absurd wN.r.sm h,λ_ p11 Pj XR KG hp11 Tp pa=>?_⟩
   have e11:XR=[]:=by
    have:=aaj pa
    rw[wN.r.qu fu mfu] at this
    exact aas.mp this.symm
   subst e11
   refine⟨L2.kL,λp12 Px=>?_⟩
   refine⟨_,⟨p11,p12,rfl,rfl⟩,yl (x:=[]) (y:=[]) (h_.of (ip Px Tp)) (h_.of a_),_,rfl,o9 (by rfl) ?_⟩
   have Tq:=ip (u:=.lst []) Px (KG _ _ XO)
   refine⟨_,rfl,.inl ⟨rfl,_,h_.of Tq⟩,L2.kL,λt13 Tr=>?_⟩
   refine⟨q0,_,_,rfl,rfl,ip Tr Tq,by omega,?_⟩
   exact⟨_,_,rfl,((((Kg.trans KG).new Px).new Tr).upd (s9.free WY))⟩
  rintro Z H9 ⟨HC,HD,rfl,s9⟩
  refine⟨_,rfl,d,Y6.dx,_,rfl,s9 _ _ y6.hd,E5,_,rfl,d,D2,W,st,rfl,X6.same s9,Ml.B_,m6.many,λh=>absurd wN.r.sm h,λ_ p1 vJ=>?_⟩
  rw[wN.r.has]
  have Bj:=s9.new (o:=.lst (gi D2.names)) vJ
  have Mn:upd H9 p1 (.lst (gi D2.names)) p1=some (.lst (gi D2.names)):=a_
  generalize upd H9 p1 (.lst (gi D2.names))=Fu at Bj Mn
  refine⟨_,rfl,p1,na,D2.names,D2.names,rfl,Mn,Bj _ _ (kE wN.hn),?_⟩
  refine⟨_,rfl,o9 (by simp) ?_⟩
  refine⟨_,rfl,d,Y6.dx,_,rfl,Bj _ _ y6.hd,zv,d,D2,W,rfl,X6.same Bj,λp2 yp=>?_⟩
  have KG:=Bj.new (o:=.lst (gi D2.names)) yp
  have Ts:upd Fu p2 (.lst (gi D2.names)) p2=some (.lst (gi D2.names)):=a_
  generalize upd Fu p2 (.lst (gi D2.names))=Pj at KG Ts
  refine⟨_,rfl,p2,na,D2.names,D2.names,rfl,Ts,KG _ _ (kE wN.hn),?_⟩
  refine⟨_,rfl,o9 (by simp) ?_⟩
  refine⟨_,rfl,_,rfl,_,rfl,_,rfl,fs,_,_,_,rfl,rfl,h_.of (KG _ _ (wN.ap.at wN.hf)),ig rfl (ju Gr),d,D2,W,st,fl,rfl,X6.same KG,Ml.B_,m6,m8,wN.r.inv,wN.r.sm,wN.r.qu fl Ux,λH12 Kd=>?_⟩
  obtain⟨Hd4,rfl,wF,_⟩:=wN.back (KG.trans Kd)
  exact⟨_,_,_,_,_,_,_,_,Z_,Z9,Hd4,D2,W,rfl,rfl,wF⟩
 ·rintro Z H7 ⟨v7,v8,v9,v10,v11,Mm,HC,HD,rq,R,Hd,D,W,rfl,rfl,w⟩
  have X:=w.Ea.same w.ap.same
  obtain⟨Y,y⟩:=id X
  obtain⟨m1,m2,m3⟩:=w.r.small hm
  refine⟨_,rfl,d,Y.dx,_,rfl,y.hd,DS,_,rfl,d,D,W,st,rfl,X,Ml.B_,m1,m3,w.r.inv,λh=>absurd w.r.sm h,λ_ p1 H1 fl s1 vJ Mn F=>?_⟩
  have XM:(λf=>D.row st f≠[])=λf=>f∈[f0,f1].filter λf=>decide (D.row st f≠[]):=by
   funext f
   rw[aah,abl]
   refine propext ⟨λh=>⟨Classical.byContradiction λz=>h (w.r.none z),h⟩,λh=>h.2⟩
  refine⟨_,rfl,by decide,by decide,?_⟩
  refine qY (n:=2) (by decide) (λu ys Z H2=>∃(v7:Option V),Z=[rr a,rr d,rs st,rr fs,rr ro,rr na,ri m,v7,v8,v9,v10,v11,Mm,HC,HD,none]/\H2=H1/\ys=gi (([f0,f1].take u).filter λf=>decide (D.row st f≠[]))) ⟨none,rfl,rfl,rfl⟩ (by rintro _ _ _ _ ⟨_,_,_,e⟩;rw[e,QU];exact aao (aaM _ _) (by rw[aaA];omega)) ?_ ?_
  ·rintro u ys Z H2 hu ⟨v7,rfl,rfl,rfl⟩
   rw[show(0:Int)+(u:Int)=(u:Int) by omega]
   obtain⟨fu,Nc⟩:∃fu,[f0,f1][u]?=some fu:=⟨_,R7 hu⟩
   obtain⟨ru,To⟩:∃ru,rq[u]?=some ru:=⟨_,R7 (by rw[w.rl];exact hu)⟩
   obtain⟨vr,XO,XQ⟩:=w.w u fu ru Nc To
   have Qh:=aaj XQ
   refine⟨_,rfl,_,rfl,ro,_,_,_,rfl,rfl,h_.of (s1 _ _ (kE w.hr)),ig rfl (by rw[YI,To];rfl),ru,_,rfl,.inl (h_.of (s1 _ _ (w.ap.at XO))),_,_,rfl,rfl,_,rfl,?_⟩
   rw[take_snoc Nc,aaH]
   by_cases hz:D.row st fu=[]
   ·rw[aaf (by simpa using hz),aaX,aaJ]
    refine o9 (aai (by rw[Qh,hz];simp)) ?_
    exact⟨_,rfl,rfl,rfl⟩
   ·rw[aad (by simpa using hz),aaX]
    have:0<(D.row st fu).length:=List.length_pos_iff.mpr hz
    refine yP (V7 (by omega)) ?_
    refine⟨_,rfl,_,rfl,fs,_,_,_,rfl,rfl,h_.of (s1 _ _ (w.ap.at w.hf)),ig rfl (ju Nc),_,rfl,rfl,?_⟩
    rw[i3]
  rintro ys Z H2 ⟨v7,rfl,rfl,rfl⟩ l hl
  rw[show[f0,f1].take 2=[f0,f1] from rfl]
  have yp:=ip (u:=.lst (gi ([f0,f1].filter λf=>decide (D.row st f≠[])))) hl Mn
  refine⟨l,[f0,f1].filter λf=>decide (D.row st f≠[]),rfl,h_.of a_,abn (aaM _ _) (by show 2<64;decide),λz zs hz pz az=>?_⟩
  have nd:([f0,f1].filter λf=>decide (D.row st f≠[])).Nodup:=List.Pairwise.filter _ (show[f0,f1].Nodup by simp[Te])
  have e:fl=zs:=by
   rw[XM] at F
   exact F.uniq ⟨az,pz.nodup_iff.mpr nd,λg=>pz.mem_iff⟩
  subst e
  refine⟨p1,z,fl,fl,rfl,ip hz yp,a_,?_⟩
  rw[V7 rfl]
  exact q _
end
end PK
namespace TW
open PySem PySem.W L2 PK
noncomputable section
noncomputable abbrev S:=Str.ofString
noncomputable abbrev ob:=Obj.mk
noncomputable abbrev v(x:String)(t:Nat):Value:=.str (S x) t
noncomputable abbrev r:=Value.ref
noncomputable abbrev vi:=Value.int
noncomputable abbrev i(n:Int):=Value.int n 0
noncomputable abbrev vn:=Value.none
noncomputable abbrev w:=Value.type
noncomputable abbrev b:=Value.builtin
noncomputable abbrev vl:=Value.bool
noncomputable abbrev cl:=ClassData.mk
noncomputable abbrev k:=@some Value
noncomputable abbrev d(P:Params)(x:String)(t:Nat)(y:Value):DictEntry:=.mk (PyData.keyHash P (S x)) (v x t) y
noncomputable abbrev x:=top
noncomputable abbrev y(i j:Nat):=inClass (top i) j
noncomputable abbrev n:=BT.node
noncomputable abbrev z:=BT.nil
noncomputable abbrev f(o:Obj):BT:=n o z z
noncomputable abbrev of(c:String)(l:List Value):Obj:=ob (w c) none (.fields l.toArray) #[]
noncomputable abbrev tp(l:List Value):Obj:=ob (w "tuple") none (.seq l.toArray 0) #[]
noncomputable abbrev fl(l:List Value):Obj:=ob vn none (.fields l.toArray) #[]
noncomputable abbrev l3(l:List (Int×Int×Addr)):Obj:=fl (l.flatMap λ(a,b,c)=>[i a,i b,r c])
noncomputable abbrev fd(n q:Str)(st:Stmt)(g:Addr)(c:List (Str×Addr))(d kd doc pm:Value)(an:Option Addr)(co ct:Value)(b:Addr):FuncData:=⟨n,q,oq st,.stmts (kQ st),f_ st,g,c,d,kd,doc,pm,an,co,ct,b⟩
noncomputable abbrev fn(a b:String)(st:Stmt)(m:String)(t:Nat)(c:Addr):Obj:=ob (w "function") none (.func (fd (S a) (S b) st 3 [] vn vn vn (v m t) none (r c) vn 0)) #[]
noncomputable abbrev fv(a b:String)(st:Stmt):Obj:=ob vn none (.func (fd (S a) (S b) st 0 [] vn vn vn vn none vn vn 0)) #[]
noncomputable abbrev dt(l:List DictEntry)(c:Nat):Obj:=ob (w "dict") none (.dict l.toArray c) #[]
noncomputable abbrev fr(l:List (Option Value)):Obj:=ob (w "frame") none .plain l.toArray
noncomputable abbrev ty(c:ClassData)(l:List (Option Value)):Obj:=ob (w "type") none (.cls c) l.toArray
noncomputable abbrev o0:Addr->Value|0=>vn|a+1=>r (a+1)
noncomputable abbrev co(a b:String)(t:Nat)(l p q:Int)(c:Addr)(g:Int)(ys:List Addr)(u:Nat):Obj:=of "code" ([v a t,v b (t+1),v "/claim/cut.py" (t+2),i l,i p,i 0,i 0,i q,r c,vl true,i g]++ys.map o0++[i u,i l,v "/claim/cut.py" (u+1)])
def hi(P:Params):List DictEntry:=[(d P "__doc__" 166 vn),(d P "__package__" 167 vn),(d P "__loader__" 168 (b "__main__.__loader__#opaque")),(d P "__spec__" 169 vn),(d P "__annotations__" 170 (r 6)),(d P "__builtins__" 171 (r 4)),(d P "__file__" 173 (v "/claim/cut.py" 172)),(d P "__cached__" 174 vn),(d P "_wall" 193 (r 21)),(d P "counts_with" 206 (r 28)),(d P "most_pairs" 212 (r 33)),(d P "place_from" 222 (r 40)),(d P "kept" 235 (r 47)),(d P "PatchError" 255 (r 57))]
def hj(P:Params):List DictEntry:=hi P++[(d P "BadName" 271 (r 70))]
def hk(P:Params):List DictEntry:=hj P++[(d P "NameTaken" 287 (r 82))]
def hl(P:Params):List DictEntry:=hk P++[(d P "NoStore" 303 (r 94))]
def hm(P:Params):List DictEntry:=hl P++[(d P "Unsettled" 319 (r 106))]
def hn(P:Params):List DictEntry:=hm P++[(d P "Same" 335 (r 118))]
def ho(P:Params):List DictEntry:=hn P++[(d P "Line" 372 (r 137))]
def hp(P:Params):List DictEntry:=ho P++[(d P "Patch" 409 (r 158)),(d P "lines_named_by" 415 (r 167)),(d P "leans_straight_on" 421 (r 172)),(d P "live_patches" 431 (r 179)),(d P "lines_put" 441 (r 186)),(d P "standing_lines" 447 (r 191)),(d P "files_with_lines" 453 (r 196))]
def hq(P:Params):List DictEntry:=hp P++[(d P "straight_ahead" 462 (r 203)),(d P "joined" 472 (r 210)),(d P "all_ahead" 478 (r 215)),(d P "first_free" 486 (r 222)),(d P "row_of" 492 (r 227))]
def hr(P:Params):List DictEntry:=hq P++[(d P "Sight" 556 (r 272)),(d P "NAME_SIGNS" 560 (v "abcdefghijklmnopqrstuvwxyz0123456789" 559)),(d P "LONGEST_NAME" 562 (vi 12 561))]
def hs(P:Params):List DictEntry:=hr P++[(d P "check_name" 570 (r 283)),(d P "kept_behind" 580 (r 290)),(d P "new_lines" 594 (r 297)),(d P "changing_patch" 600 (r 302))]
def ht(P:Params):List DictEntry:=hs P++[(d P "Desk" 813 (r 465))]
def hu(P:Params):List DictEntry:=ht P++[(d P "_law_cell_at" 823 (r 476)),(d P "_law_name" 837 (r 483)),(d P "_law_text" 843 (r 488)),(d P "_law_texts" 849 (r 493)),(d P "_law_edit" 863 (r 500)),(d P "_law_whole" 870 (r 507)),(d P "_law_row_form" 878 (r 514)),(d P "_law_names_are" 887 (r 521)),(d P "_law_behind" 898 (r 528)),(d P "_law_pair" 911 (r 535)),(d P "_law_stays" 922 (r 542)),(d P "_law_next" 928 (r 547))]
def hv(P:Params):List DictEntry:=hu P++[(d P "_law_lists_changed" 937 (r 554)),(d P "law" 943 (r 559))]
def aa:Obj:=tp []
def ab:Obj:=fl []
def ac:Obj:=of "builtin_function_or_method" [(b "type.__prepare__"),(w "type")]
def ad:Obj:=tp [(r 57)]
def ae:Obj:=of "code" [(v "<module>" 182),(v "<module>" 183),(v "/claim/cut.py" 184),(i 1),(i 0),(i 0),(i 0),(i 0),(r 11),(vl false),(i 181),(r 12),vn,vn,vn,vn,(i 185),(i 1),(v "/claim/cut.py" 186)]
def af:Obj:=fr [(k (r 13)),(k (r 3)),(k (r 3)),none,(k (v "__main__" 164)),none,(k (r 0))]
def ag:Obj:=fn "kept" "kept" (x 5) "patchkin.differ" 194 46
def ai:Obj:=co "place_from" "place_from" 213 18 3 3 34 181 [35,0,36,37,38] 220
def aj:Obj:=co "counts_with" "counts_with" 196 5 3 3 22 181 [23,0,24,25,26] 204
def al:Obj:=tp [(v "old" 226),(v "new" 227),(v "table" 228),(v "pairs" 229),(v "start" 230),(v "first" 231),(v "second" 232)]
def am:Obj:=tp [(v "k" 190)]
def an:Obj:=fn "most_pairs" "most_pairs" (x 3) "patchkin.differ" 194 32
def ao:Obj:=fn "_wall" "_wall" (x 0) "__main__" 164 20
def ap:Obj:=co "most_pairs" "most_pairs" 207 13 2 3 29 181 [30,0,0,0,31] 210
def aq:Obj:=tp [(w "ValueError")]
def ar:Obj:=tp [(v "text" 199),(v "new" 200),(v "below" 201),(v "counts" 202),(v "second" 203)]
def au:Obj:=fn "place_from" "place_from" (x 4) "patchkin.differ" 194 39
def av(P:Params):Obj:=dt [(d P "__module__" 245 (v "patchkin.errors" 236)),(d P "__firstlineno__" 249 (vi 34 248)),(d P "__static_attributes__" 250 (r 55)),(d P "__weakref__" 252 (r 58)),(d P "__doc__" 253 vn)] 3
def aw:Obj:=co "_wall" "_wall" 187 1 1 3 15 181 [16,0,17,18,19] 191
def ax:Obj:=tp [(v "texts" 216),(v "text" 217),(v "start" 218),(v "place" 219)]
def ay:Obj:=fn "counts_with" "counts_with" (x 2) "patchkin.differ" 194 27
def az:Obj:=of "getset_descriptor" [(v "__weakref__" 251),(r 57),(b "ExceptionGroup.__weakref__"),vn]
def aA:Obj:=co "kept" "kept" 223 23 2 3 41 181 [42,0,43,44,45] 233
def aB:Obj:=fv "most_pairs" "most_pairs" (x 3)
def aC:Obj:=fv "_wall" "_wall" (x 0)
def aD:Obj:=of "super" [(r 57),(r 57),(r 57)]
def aE(P:Params):Obj:=dt [(d P "__module__" 263 (v "patchkin.errors" 236)),(d P "__firstlineno__" 267 (vi 36 266)),(d P "__static_attributes__" 268 (r 68)),(d P "__doc__" 269 vn)] 2
def aF:Obj:=of "code" [(v "PatchError" 240),(v "PatchError" 241),(v "/claim/cut.py" 242),(i 34),(i 0),(i 0),(i 0),(i 0),(r 51),(vl false),(i 181),(r 52),vn,vn,vn,vn,(i 243),(i 34),(v "/claim/cut.py" 244)]
def aG:Obj:=fv "kept" "kept" (x 5)
def aH:Obj:=of "builtin_function_or_method" [(b "object.__init_subclass__"),(r 57)]
def aI(P:Params):Obj:=dt [(d P "__module__" 245 (v "patchkin.errors" 236)),(d P "__qualname__" 247 (v "PatchError" 246)),(d P "__firstlineno__" 249 (vi 34 248)),(d P "__static_attributes__" 250 (r 55))] 4
def aJ:Obj:=fv "counts_with" "counts_with" (x 2)
def aK:Obj:=fv "place_from" "place_from" (x 4)
def aL:Obj:=ty (cl (S "BadName") [(r 57)] [(r 70),(r 57),(w "ValueError"),(w "Exception"),(w "BaseException"),(w "object")] 69 (S "BadName") true [] [] false none false) [(k (r 61)),none,(k (v "BadName" 256)),(k (v "BadName" 264)),(k (b "ValueError.__new__")),(k (vl true))]
def aM:Obj:=fr [(k (r 53)),(k (r 3)),(k (r 50)),none,(k (v "patchkin.errors" 236)),none,(k (r 0))]
def aN(P:Params):Obj:=dt [(d P "__module__" 263 (v "patchkin.errors" 236)),(d P "__qualname__" 265 (v "BadName" 264)),(d P "__firstlineno__" 267 (vi 36 266)),(d P "__static_attributes__" 268 (r 68))] 4
def aO:Obj:=of "super" [(r 70),(r 70),(r 70)]
def aP:Obj:=fr [(k (r 66)),(k (r 3)),(k (r 63)),none,(k (v "patchkin.errors" 236)),none,(k (r 0))]
def aQ(P:Params):Obj:=dt [(d P "__module__" 279 (v "patchkin.errors" 236)),(d P "__firstlineno__" 283 (vi 38 282)),(d P "__static_attributes__" 284 (r 80)),(d P "__doc__" 285 vn)] 2
def aR:Obj:=of "builtin_function_or_method" [(b "object.__init_subclass__"),(r 70)]
def aS:Obj:=of "code" [(v "BadName" 258),(v "BadName" 259),(v "/claim/cut.py" 260),(i 36),(i 0),(i 0),(i 0),(i 0),(r 64),(vl false),(i 181),(r 65),vn,vn,vn,vn,(i 261),(i 36),(v "/claim/cut.py" 262)]
def aT:Obj:=ty (cl (S "NameTaken") [(r 57)] [(r 82),(r 57),(w "ValueError"),(w "Exception"),(w "BaseException"),(w "object")] 81 (S "NameTaken") true [] [] false none false) [(k (r 73)),none,(k (v "NameTaken" 272)),(k (v "NameTaken" 280)),(k (b "ValueError.__new__")),(k (vl true))]
def aU:Obj:=fr [(k (r 78)),(k (r 3)),(k (r 75)),none,(k (v "patchkin.errors" 236)),none,(k (r 0))]
def aV:Obj:=of "super" [(r 82),(r 82),(r 82)]
def aW(P:Params):Obj:=dt [(d P "__module__" 279 (v "patchkin.errors" 236)),(d P "__qualname__" 281 (v "NameTaken" 280)),(d P "__firstlineno__" 283 (vi 38 282)),(d P "__static_attributes__" 284 (r 80))] 4
def aX(P:Params):Obj:=dt [(d P "__module__" 295 (v "patchkin.errors" 236)),(d P "__firstlineno__" 299 (vi 40 298)),(d P "__static_attributes__" 300 (r 92)),(d P "__doc__" 301 vn)] 2
def aY:Obj:=of "builtin_function_or_method" [(b "object.__init_subclass__"),(r 82)]
def aZ:Obj:=of "code" [(v "NameTaken" 274),(v "NameTaken" 275),(v "/claim/cut.py" 276),(i 38),(i 0),(i 0),(i 0),(i 0),(r 76),(vl false),(i 181),(r 77),vn,vn,vn,vn,(i 277),(i 38),(v "/claim/cut.py" 278)]
def a0:Obj:=ty (cl (S "NoStore") [(r 57)] [(r 94),(r 57),(w "ValueError"),(w "Exception"),(w "BaseException"),(w "object")] 93 (S "NoStore") true [] [] false none false) [(k (r 85)),none,(k (v "NoStore" 288)),(k (v "NoStore" 296)),(k (b "ValueError.__new__")),(k (vl true))]
def a1:Obj:=of "super" [(r 94),(r 94),(r 94)]
def a2(P:Params):Obj:=dt [(d P "__module__" 295 (v "patchkin.errors" 236)),(d P "__qualname__" 297 (v "NoStore" 296)),(d P "__firstlineno__" 299 (vi 40 298)),(d P "__static_attributes__" 300 (r 92))] 4
def a3:Obj:=fr [(k (r 90)),(k (r 3)),(k (r 87)),none,(k (v "patchkin.errors" 236)),none,(k (r 0))]
def a4(P:Params):Obj:=dt [(d P "__module__" 311 (v "patchkin.errors" 236)),(d P "__firstlineno__" 315 (vi 42 314)),(d P "__static_attributes__" 316 (r 104)),(d P "__doc__" 317 vn)] 2
def a5:Obj:=of "builtin_function_or_method" [(b "object.__init_subclass__"),(r 94)]
def a6:Obj:=ty (cl (S "Unsettled") [(r 57)] [(r 106),(r 57),(w "ValueError"),(w "Exception"),(w "BaseException"),(w "object")] 105 (S "Unsettled") true [] [] false none false) [(k (r 97)),none,(k (v "Unsettled" 304)),(k (v "Unsettled" 312)),(k (b "ValueError.__new__")),(k (vl true))]
def a7:Obj:=of "code" [(v "NoStore" 290),(v "NoStore" 291),(v "/claim/cut.py" 292),(i 40),(i 0),(i 0),(i 0),(i 0),(r 88),(vl false),(i 181),(r 89),vn,vn,vn,vn,(i 293),(i 40),(v "/claim/cut.py" 294)]
def a8:Obj:=fr [(k (r 102)),(k (r 3)),(k (r 99)),none,(k (v "patchkin.errors" 236)),none,(k (r 0))]
def a9(P:Params):Obj:=dt [(d P "__module__" 311 (v "patchkin.errors" 236)),(d P "__qualname__" 313 (v "Unsettled" 312)),(d P "__firstlineno__" 315 (vi 42 314)),(d P "__static_attributes__" 316 (r 104))] 4
def ba:Obj:=of "super" [(r 106),(r 106),(r 106)]
def bb:Obj:=of "builtin_function_or_method" [(b "object.__init_subclass__"),(r 106)]
def bc:Obj:=of "code" [(v "Unsettled" 306),(v "Unsettled" 307),(v "/claim/cut.py" 308),(i 42),(i 0),(i 0),(i 0),(i 0),(r 100),(vl false),(i 181),(r 101),vn,vn,vn,vn,(i 309),(i 42),(v "/claim/cut.py" 310)]
def be:Obj:=ty (cl (S "PatchError") [(w "ValueError")] [(r 57),(w "ValueError"),(w "Exception"),(w "BaseException"),(w "object")] 56 (S "PatchError") true [] [(r 70),(r 82),(r 94),(r 106),(r 118)] false none false) [(k (r 48)),none,(k (v "PatchError" 238)),(k (v "PatchError" 246)),(k (b "ValueError.__new__")),(k (vl true))]
def bf(P:Params):Obj:=dt [(d P "__module__" 327 (v "patchkin.errors" 236)),(d P "__firstlineno__" 331 (vi 44 330)),(d P "__static_attributes__" 332 (r 116)),(d P "__doc__" 333 vn)] 2
def bg:Obj:=ty (cl (S "Same") [(r 57)] [(r 118),(r 57),(w "ValueError"),(w "Exception"),(w "BaseException"),(w "object")] 117 (S "Same") true [] [] false none false) [(k (r 109)),none,(k (v "Same" 320)),(k (v "Same" 328)),(k (b "ValueError.__new__")),(k (vl true))]
def bh(P:Params):Obj:=dt [(d P "__module__" 327 (v "patchkin.errors" 236)),(d P "__qualname__" 329 (v "Same" 328)),(d P "__firstlineno__" 331 (vi 44 330)),(d P "__static_attributes__" 332 (r 116))] 4
def bi:Obj:=tp [(v "lower_name" 361),(v "name" 362),(v "text" 363),(v "upper_name" 364)]
def bj:Obj:=of "super" [(r 118),(r 118),(r 118)]
def bl:Obj:=fr [(k (r 114)),(k (r 3)),(k (r 111)),none,(k (v "patchkin.errors" 236)),none,(k (r 0))]
def bm:Obj:=of "getset_descriptor" [(v "__weakref__" 368),(r 137),(b "ExceptionGroup.__weakref__"),vn]
def bn:Obj:=ty (cl (S "Line") [(w "object")] [(r 137),(w "object")] 136 (S "Line") true [] [] false none false) [none,none,(k (v "Line" 338)),(k (v "Line" 346)),(k (b "object.__new__")),(k (vl true))]
def bo:Obj:=co "__init__" "Line.__init__" 350 49 5 3 128 181 [129,0,130,131,132] 358
def bp(P:Params):Obj:=dt [(d P "__module__" 345 (v "patchkin.order" 336)),(d P "__firstlineno__" 349 (vi 47 348)),(d P "__init__" 360 (r 134)),(d P "__static_attributes__" 365 (r 135)),(d P "__dict__" 367 (r 138)),(d P "__weakref__" 369 (r 139)),(d P "__doc__" 370 vn)] 4
def bq:Obj:=of "builtin_function_or_method" [(b "object.__init_subclass__"),(r 118)]
def br:Obj:=tp [(v "self" 353),(v "name" 354),(v "text" 355),(v "upper_name" 356),(v "lower_name" 357)]
def bt:Obj:=of "code" [(v "Same" 322),(v "Same" 323),(v "/claim/cut.py" 324),(i 44),(i 0),(i 0),(i 0),(i 0),(r 112),(vl false),(i 181),(r 113),vn,vn,vn,vn,(i 325),(i 44),(v "/claim/cut.py" 326)]
def bu:Obj:=of "getset_descriptor" [(v "__dict__" 366),(r 137),(b "function.__dict__"),(b "function.__dict__#set")]
def bv:Obj:=fn "__init__" "Line.__init__" (y 14 0) "patchkin.order" 336 133
def bw:Obj:=fr [(k (r 126)),(k (r 3)),(k (r 123)),none,(k (v "patchkin.order" 336)),none,(k (r 0))]
def bz:Obj:=fn "standing_lines" "standing_lines" (x 20) "patchkin.order" 336 190
def bA:Obj:=of "getset_descriptor" [(v "__dict__" 403),(r 158),(b "function.__dict__"),(b "function.__dict__#set")]
noncomputable def bB:Obj:=tp [(v "patches" 425),(v "taken_back" 426),(v "live" 427),(v "patch" 428)]
def bC:Obj:=fn "lines_named_by" "lines_named_by" (x 16) "patchkin.order" 336 166
def bD:Obj:=tp [(v "self" 388),(v "name" 389),(v "file" 390),(v "puts" 391),(v "cuts" 392),(v "other" 393)]
def bE:Obj:=co "files_with_lines" "files_with_lines" 448 95 1 3 192 181 [193,0,0,0,194] 451
def bF:Obj:=fn "live_patches" "live_patches" (x 18) "patchkin.order" 336 178
def bG:Obj:=co "leans_straight_on" "leans_straight_on" 416 68 1 3 168 181 [169,0,0,0,170] 419
def bH:Obj:=fn "__init__" "Patch.__init__" (y 15 0) "patchkin.order" 336 154
def bI(P:Params):Obj:=dt [(d P "__module__" 345 (v "patchkin.order" 336)),(d P "__qualname__" 347 (v "Line" 346)),(d P "__firstlineno__" 349 (vi 47 348)),(d P "__init__" 360 (r 134)),(d P "__static_attributes__" 365 (r 135))] 5
def bJ:Obj:=co "lines_put" "lines_put" 432 82 2 3 180 181 [181,0,182,183,184] 439
def bL:Obj:=of "builtin_function_or_method" [(b "object.__init_subclass__"),(r 137)]
def bM(P:Params):Obj:=dt [(d P "__module__" 380 (v "patchkin.order" 336)),(d P "__firstlineno__" 384 (vi 54 383)),(d P "__init__" 396 (r 155)),(d P "__static_attributes__" 402 (r 156)),(d P "__dict__" 404 (r 159)),(d P "__weakref__" 406 (r 160)),(d P "__doc__" 407 vn)] 4
def bN:Obj:=l3 [(49,4,133)]
def bO:Obj:=of "getset_descriptor" [(v "__weakref__" 405),(r 158),(b "ExceptionGroup.__weakref__"),vn]
def bP:Obj:=fv "__init__" "Line.__init__" (y 14 0)
def bQ:Obj:=fn "files_with_lines" "files_with_lines" (x 21) "patchkin.order" 336 195
def bR:Obj:=of "super" [(r 137),(r 137),(r 137)]
def bS:Obj:=fn "leans_straight_on" "leans_straight_on" (x 17) "patchkin.order" 336 171
def bT:Obj:=tp [(v "cuts" 397),(v "file" 398),(v "name" 399),(v "other" 400),(v "puts" 401)]
def bU:Obj:=co "live_patches" "live_patches" 422 73 1 3 173 181 [174,0,175,176,177] 429
def bV:Obj:=co "__init__" "Patch.__init__" 385 56 6 3 149 181 [150,0,151,152,153] 394
def bW:Obj:=fn "lines_put" "lines_put" (x 19) "patchkin.order" 336 185
def bX:Obj:=co "lines_named_by" "lines_named_by" 410 62 1 3 163 181 [164,0,0,0,165] 413
def bY:Obj:=tp [(v "patches" 435),(v "file" 436),(v "lines" 437),(v "patch" 438)]
def bZ:Obj:=ty (cl (S "Patch") [(w "object")] [(r 158),(w "object")] 157 (S "Patch") true [] [] false none false) [none,none,(k (v "Patch" 373)),(k (v "Patch" 381)),(k (b "object.__new__")),(k (vl true))]
def b0:Obj:=of "code" [(v "Line" 340),(v "Line" 341),(v "/claim/cut.py" 342),(i 47),(i 0),(i 0),(i 0),(i 0),(r 124),(vl false),(i 181),(r 125),vn,vn,vn,vn,(i 343),(i 47),(v "/claim/cut.py" 344)]
def b1:Obj:=co "standing_lines" "standing_lines" 442 88 2 3 187 181 [188,0,0,0,189] 445
def b2:Obj:=tp [(v "lines" 457),(v "straight" 458),(v "line" 459)]
def b3:Obj:=fn "all_ahead" "all_ahead" (x 24) "patchkin.order" 336 214
def b4:Obj:=fn "row_of" "row_of" (x 26) "patchkin.order" 336 226
def b5:Obj:=of "code" [(v "Patch" 375),(v "Patch" 376),(v "/claim/cut.py" 377),(i 54),(i 0),(i 0),(i 0),(i 0),(r 145),(vl false),(i 181),(r 146),vn,vn,vn,vn,(i 378),(i 54),(v "/claim/cut.py" 379)]
def b6:Obj:=fn "straight_ahead" "straight_ahead" (x 22) "patchkin.order" 336 202
def b7:Obj:=of "super" [(r 158),(r 158),(r 158)]
def b8:Obj:=co "joined" "joined" 463 108 2 3 204 181 [205,0,206,207,208] 470
def b9:Obj:=fv "live_patches" "live_patches" (x 18)
def ca:Obj:=fv "__init__" "Patch.__init__" (y 15 0)
def cb:Obj:=fv "lines_named_by" "lines_named_by" (x 16)
def cc:Obj:=co "first_free" "first_free" 479 130 1 3 216 181 [217,0,218,219,220] 484
def cd:Obj:=fv "standing_lines" "standing_lines" (x 20)
def ce(P:Params):Obj:=dt [(d P "__module__" 380 (v "patchkin.order" 336)),(d P "__qualname__" 382 (v "Patch" 381)),(d P "__firstlineno__" 384 (vi 54 383)),(d P "__init__" 396 (r 155)),(d P "__static_attributes__" 402 (r 156))] 5
def cf:Obj:=fv "lines_put" "lines_put" (x 19)
def cg:Obj:=fr [(k (r 147)),(k (r 3)),(k (r 144)),none,(k (v "patchkin.order" 336)),none,(k (r 0))]
def ch:Obj:=fv "files_with_lines" "files_with_lines" (x 21)
def ci:Obj:=of "builtin_function_or_method" [(b "object.__init_subclass__"),(r 158)]
def cj:Obj:=co "row_of" "row_of" 487 135 2 3 223 181 [224,0,0,0,225] 490
def ck:Obj:=l3 [(56,4,154)]
def cm:Obj:=fn "joined" "joined" (x 23) "patchkin.order" 336 209
def cn:Obj:=co "straight_ahead" "straight_ahead" 454 98 1 3 197 181 [198,0,199,200,201] 460
def cp:Obj:=fv "leans_straight_on" "leans_straight_on" (x 17)
def cq:Obj:=tp [(v "waiting" 482),(v "name" 483)]
def cr:Obj:=co "all_ahead" "all_ahead" 473 114 1 3 211 181 [212,0,0,0,213] 476
def cs:Obj:=tp [(v "names" 466),(v "ahead" 467),(v "found" 468),(v "name" 469)]
def ct:Obj:=fn "first_free" "first_free" (x 25) "patchkin.order" 336 221
def cu:Obj:=fn "quarrelling" "Sight.quarrelling" (y 27 2) "patchkin.order" 336 254
def cv(P:Params):Obj:=dt [(d P "__module__" 500 (v "patchkin.order" 336)),(d P "__firstlineno__" 504 (vi 150 503)),(d P "__init__" 513 (r 241)),(d P "is_ahead" 522 (r 248)),(d P "quarrelling" 532 (r 255)),(d P "most_from" 539 (r 262)),(d P "staying" 546 (r 269)),(d P "__static_attributes__" 549 (r 270)),(d P "__dict__" 551 (r 273)),(d P "__weakref__" 553 (r 274)),(d P "__doc__" 554 vn)] 4
def cw:Obj:=co "is_ahead" "Sight.is_ahead" 514 156 3 3 242 181 [243,0,244,245,246] 520
def cx:Obj:=tp [(v "self" 526),(v "pairs" 527),(v "first" 528),(v "second" 529)]
def cy:Obj:=fv "row_of" "row_of" (x 26)
def cz:Obj:=of "getset_descriptor" [(v "__dict__" 550),(r 272),(b "function.__dict__"),(b "function.__dict__#set")]
def cA:Obj:=fn "__init__" "Sight.__init__" (y 27 0) "patchkin.order" 336 240
def cB:Obj:=tp [(v "self" 543)]
def cC:Obj:=fv "straight_ahead" "straight_ahead" (x 22)
def cD:Obj:=co "most_from" "Sight.most_from" 533 167 1 3 256 181 [257,0,258,259,260] 537
def cE:Obj:=fv "all_ahead" "all_ahead" (x 24)
def cF:Obj:=fn "staying" "Sight.staying" (y 27 4) "patchkin.order" 336 268
def cG:Obj:=tp [(v "self" 508),(v "patches" 509),(v "file" 510)]
def cH:Obj:=ty (cl (S "Sight") [(w "object")] [(r 272),(w "object")] 271 (S "Sight") true [] [] false none false) [none,none,(k (v "Sight" 493)),(k (v "Sight" 501)),(k (b "object.__new__")),(k (vl true))]
def cI:Obj:=fv "joined" "joined" (x 23)
def cJ:Obj:=co "__init__" "Sight.__init__" 505 152 3 3 235 181 [236,0,237,238,239] 511
def cK:Obj:=fn "is_ahead" "Sight.is_ahead" (y 27 1) "patchkin.order" 336 247
def cL:Obj:=tp [(v "self" 517),(v "first" 518),(v "second" 519)]
def cM:Obj:=co "staying" "Sight.staying" 540 170 1 3 263 181 [264,0,265,266,267] 544
def cN:Obj:=fv "first_free" "first_free" (x 25)
def cO:Obj:=tp [(v "self" 536)]
def cP:Obj:=of "getset_descriptor" [(v "__weakref__" 552),(r 272),(b "ExceptionGroup.__weakref__"),vn]
def cQ:Obj:=fn "most_from" "Sight.most_from" (y 27 3) "patchkin.order" 336 261
def cR:Obj:=tp [(v "ahead" 547),(v "lines" 548)]
def cS:Obj:=co "quarrelling" "Sight.quarrelling" 523 159 1 3 249 181 [250,0,251,252,253] 530
def cT:Obj:=fv "__init__" "Sight.__init__" (y 27 0)
def cU:Obj:=tp [(v "name" 566),(v "sign" 567)]
def cV:Obj:=of "super" [(r 272),(r 272),(r 272)]
def cW:Obj:=fv "staying" "Sight.staying" (y 27 4)
def cX:Obj:=fn "check_name" "check_name" (x 31) "patchkin.desk" 557 282
def cY:Obj:=co "kept_behind" "kept_behind" 571 181 2 3 284 181 [285,0,286,287,288] 578
def cZ:Obj:=fn "new_lines" "new_lines" (x 33) "patchkin.desk" 557 296
def c0:Obj:=of "code" [(v "Sight" 495),(v "Sight" 496),(v "/claim/cut.py" 497),(i 150),(i 0),(i 0),(i 0),(i 0),(r 231),(vl false),(i 181),(r 232),vn,vn,vn,vn,(i 498),(i 150),(v "/claim/cut.py" 499)]
def c1:Obj:=tp [(v "patch" 584),(v "texts" 585),(v "kept_names" 586),(v "behind" 587),(v "lines" 588),(v "upper_name" 589),(v "place" 590),(v "text" 591)]
def c2:Obj:=co "changing_patch" "changing_patch" 595 197 4 3 298 181 [299,0,0,0,300] 598
def c3:Obj:=fv "quarrelling" "Sight.quarrelling" (y 27 2)
def c4:Obj:=co "new_lines" "new_lines" 581 186 3 3 291 181 [292,0,293,294,295] 592
def c5:Obj:=l3 [(152,4,240),(156,4,247),(159,4,254),(167,4,261),(170,4,268)]
def c6:Obj:=fv "most_from" "Sight.most_from" (y 27 3)
def c7:Obj:=of "builtin_function_or_method" [(b "object.__init_subclass__"),(r 272)]
def c8:Obj:=fn "kept_behind" "kept_behind" (x 32) "patchkin.desk" 557 289
def c9:Obj:=fr [(k (r 233)),(k (r 3)),(k (r 230)),none,(k (v "patchkin.order" 336)),none,(k (r 0))]
def da:Obj:=co "check_name" "check_name" 563 175 1 3 277 181 [278,0,279,280,281] 568
def db(P:Params):Obj:=dt [(d P "__module__" 500 (v "patchkin.order" 336)),(d P "__qualname__" 502 (v "Sight" 501)),(d P "__firstlineno__" 504 (vi 150 503)),(d P "__init__" 513 (r 241)),(d P "is_ahead" 522 (r 248)),(d P "quarrelling" 532 (r 255)),(d P "most_from" 539 (r 262)),(d P "staying" 546 (r 269)),(d P "__static_attributes__" 549 (r 270))] 9
def dc:Obj:=fv "is_ahead" "Sight.is_ahead" (y 27 1)
def df:Obj:=fn "changing_patch" "changing_patch" (x 34) "patchkin.desk" 557 301
def dg:Obj:=tp [(v "kept_names" 574),(v "size" 575),(v "behind" 576),(v "place" 577)]
def dh:Obj:=tp [(v "self" 623),(v "store" 624)]
def di:Obj:=co "take" "Desk.take" 675 244 4 3 362 181 [363,0,364,365,366] 682
def dj:Obj:=fv "new_lines" "new_lines" (x 33)
def dl:Obj:=fn "drop" "Desk.drop" (y 35 9) "patchkin.desk" 557 374
noncomputable def dm:Obj:=fn "begin" "Desk.begin" (y 35 1) "patchkin.desk" 557 322
def dn:Obj:=tp [(v "self" 688),(v "store" 689),(v "patch" 690)]
def dp:Obj:=fn "record" "Desk.record" (y 35 5) "patchkin.desk" 557 346
def dq:Obj:=co "__init__" "Desk.__init__" 613 207 1 3 310 181 [311,0,312,313,314] 617
def dr:Obj:=co "cut" "Desk.cut" 654 238 5 3 348 181 [349,0,350,351,352] 662
def ds:Obj:=fn "patches" "Desk.patches" (y 35 3) "patchkin.desk" 557 336
def du:Obj:=co "stores" "Desk.stores" 628 218 1 3 324 181 [325,0,326,327,328] 632
def dv:Obj:=fn "back" "Desk.back" (y 35 7) "patchkin.desk" 557 360
def dw:Obj:=fv "check_name" "check_name" (x 31)
def dx:Obj:=tp [(v "self" 668),(v "store" 669),(v "patch" 670),(v "other" 671)]
def dy:Obj:=co "has" "Desk.has" 642 224 2 3 338 181 [339,0,0,0,340] 645
def dz:Obj:=tp [(v "self" 638)]
def dA:Obj:=co "leans" "Desk.leans" 694 250 2 3 376 181 [377,0,378,379,380] 699
def dB:Obj:=fv "kept_behind" "kept_behind" (x 32)
def dC:Obj:=co "patches" "Desk.patches" 635 221 1 3 331 181 [332,0,333,334,335] 639
def dD:Obj:=fn "take" "Desk.take" (y 35 8) "patchkin.desk" 557 367
def dE:Obj:=co "back" "Desk.back" 665 241 4 3 355 181 [356,0,357,358,359] 672
def dF:Obj:=tp [(v "self" 616)]
def dG:Obj:=fv "changing_patch" "changing_patch" (x 34)
def dH:Obj:=tp [(v "self" 678),(v "store" 679),(v "source" 680),(v "patch" 681)]
def dI:Obj:=fn "__init__" "Desk.__init__" (y 35 0) "patchkin.desk" 557 315
noncomputable def dJ:Obj:=co "begin" "Desk.begin" 620 212 2 3 317 181 [318,0,319,320,321] 625
def dK:Obj:=fn "cut" "Desk.cut" (y 35 6) "patchkin.desk" 557 353
def dL:Obj:=fn "stores" "Desk.stores" (y 35 2) "patchkin.desk" 557 329
def dM:Obj:=co "record" "Desk.record" 648 228 5 3 343 181 [344,0,0,0,345] 651
def dN:Obj:=tp [(v "self" 697),(v "patch" 698)]
def dO:Obj:=tp [(v "self" 631)]
def dP:Obj:=fn "has" "Desk.has" (y 35 4) "patchkin.desk" 557 341
def dQ:Obj:=co "drop" "Desk.drop" 685 247 3 3 369 181 [370,0,371,372,373] 691
def dR:Obj:=tp [(v "self" 657),(v "store" 658),(v "patch" 659),(v "file" 660),(v "places" 661)]
def dS:Obj:=fn "leans" "Desk.leans" (y 35 10) "patchkin.desk" 557 381
def dT:Obj:=co "check_held" "Desk.check_held" 773 281 3 3 442 181 [443,0,444,445,446] 779
def dU:Obj:=fn "stay" "Desk.stay" (y 35 15) "patchkin.desk" 557 414
def dV:Obj:=fv "patches" "Desk.patches" (y 35 3)
def dW:Obj:=tp [(v "held" 803),(v "made" 804),(v "needs" 805)]
def dX:Obj:=fn "check_new" "Desk.check_new" (y 35 21) "patchkin.desk" 557 454
def dY:Obj:=tp [(v "self" 751),(v "store" 752),(v "file" 753)]
def dZ:Obj:=fv "back" "Desk.back" (y 35 7)
def d0:Obj:=co "quarrels" "Desk.quarrels" 724 262 3 3 402 181 [403,0,404,405,406] 730
def d1:Obj:=tp [(v "self" 785),(v "patch" 786),(v "files" 787),(v "name" 788)]
def d2:Obj:=co "patches_of" "Desk.patches_of" 742 268 2 3 416 181 [417,0,0,0,418] 745
def d3:Obj:=of "getset_descriptor" [(v "__weakref__" 809),(r 465),(b "ExceptionGroup.__weakref__"),vn]
def d4:Obj:=co "files" "Desk.files" 710 256 2 3 390 181 [391,0,392,393,394] 715
def d5:Obj:=fn "sight_of" "Desk.sight_of" (y 35 17) "patchkin.desk" 557 426
def d6:Obj:=tp [(v "self" 736),(v "store" 737),(v "file" 738)]
def d7:Obj:=tp [(v "self" 705),(v "patch" 706)]
noncomputable def d8:Obj:=fv "begin" "Desk.begin" (y 35 1)
def d9:Obj:=fn "row" "Desk.row" (y 35 13) "patchkin.desk" 557 400
def ea:Obj:=ty (cl (S "Desk") [(w "object")] [(r 465),(w "object")] 464 (S "Desk") true [] [] false none false) [none,none,(k (v "Desk" 601)),(k (v "Desk" 609)),(k (b "object.__new__")),(k (vl true))]
def eb:Obj:=co "check_store" "Desk.check_store" 757 274 2 3 428 181 [429,0,430,431,432] 762
def ec:Obj:=fv "record" "Desk.record" (y 35 5)
def ed:Obj:=fn "check_made" "Desk.check_made" (y 35 19) "patchkin.desk" 557 440
def ee:Obj:=fn "told" "Desk.told" (y 35 11) "patchkin.desk" 557 388
def ef:Obj:=fr [(k (r 308)),(k (r 3)),(k (r 305)),none,(k (v "patchkin.desk" 557)),none,(k (r 0))]
def eg:Obj:=tp [(v "self" 768),(v "patch" 769)]
def eh:Obj:=fv "drop" "Desk.drop" (y 35 9)
noncomputable def ei:Obj:=co "keep" "Desk.keep" 792 290 3 3 456 181 [457,0,458,459,460] 800
def ej:Obj:=fn "check_held" "Desk.check_held" (y 35 20) "patchkin.desk" 557 447
def ek:Obj:=fv "cut" "Desk.cut" (y 35 6)
def el:Obj:=co "row" "Desk.row" 718 259 3 3 397 181 [398,0,0,0,399] 721
noncomputable def em(P:Params):Obj:=dt [(d P "__module__" 608 (v "patchkin.desk" 557)),(d P "__firstlineno__" 612 (vi 205 611)),(d P "__init__" 619 (r 316)),(d P "begin" 627 (r 323)),(d P "stores" 634 (r 330)),(d P "patches" 641 (r 337)),(d P "has" 647 (r 342)),(d P "record" 653 (r 347)),(d P "cut" 664 (r 354)),(d P "back" 674 (r 361)),(d P "take" 684 (r 368)),(d P "drop" 693 (r 375)),(d P "leans" 701 (r 382)),(d P "told" 709 (r 389)),(d P "files" 717 (r 396)),(d P "row" 723 (r 401)),(d P "quarrels" 732 (r 408)),(d P "stay" 741 (r 415)),(d P "patches_of" 747 (r 420)),(d P "sight_of" 756 (r 427)),(d P "check_store" 764 (r 434)),(d P "check_made" 772 (r 441)),(d P "check_held" 781 (r 448)),(d P "check_new" 791 (r 455)),(d P "keep" 802 (r 462)),(d P "__static_attributes__" 806 (r 463)),(d P "__dict__" 808 (r 466)),(d P "__weakref__" 810 (r 467)),(d P "__doc__" 811 vn)] 4
def en:Obj:=tp [(v "self" 713),(v "store" 714)]
def eo:Obj:=fv "stores" "Desk.stores" (y 35 2)
def ep:Obj:=fn "quarrels" "Desk.quarrels" (y 35 14) "patchkin.desk" 557 407
def er:Obj:=co "check_made" "Desk.check_made" 765 278 2 3 435 181 [436,0,437,438,439] 770
def es:Obj:=co "told" "Desk.told" 702 253 2 3 383 181 [384,0,385,386,387] 707
def et:Obj:=fn "patches_of" "Desk.patches_of" (y 35 16) "patchkin.desk" 557 419
def eu:Obj:=tp [(v "self" 727),(v "store" 728),(v "file" 729)]
def ev:Obj:=fv "has" "Desk.has" (y 35 4)
def ew:Obj:=of "code" [(v "Desk" 603),(v "Desk" 604),(v "/claim/cut.py" 605),(i 205),(i 0),(i 0),(i 0),(i 0),(r 306),(vl false),(i 181),(r 307),vn,vn,vn,vn,(i 606),(i 205),(v "/claim/cut.py" 607)]
def ey:Obj:=fn "files" "Desk.files" (y 35 12) "patchkin.desk" 557 395
def ez:Obj:=tp [(v "self" 776),(v "store" 777),(v "patch" 778)]
def eA:Obj:=fv "leans" "Desk.leans" (y 35 10)
def eB:Obj:=of "getset_descriptor" [(v "__dict__" 807),(r 465),(b "function.__dict__"),(b "function.__dict__#set")]
def eC:Obj:=fn "check_store" "Desk.check_store" (y 35 18) "patchkin.desk" 557 433
def eD:Obj:=tp [(v "self" 795),(v "store" 796),(v "patch" 797),(v "needs" 798),(v "name" 799)]
def eE:Obj:=co "sight_of" "Desk.sight_of" 748 271 3 3 421 181 [422,0,423,424,425] 754
def eF:Obj:=fv "__init__" "Desk.__init__" (y 35 0)
def eG:Obj:=co "check_new" "Desk.check_new" 782 284 3 3 449 181 [450,0,451,452,453] 789
noncomputable def eH:Obj:=fn "keep" "Desk.keep" (y 35 22) "patchkin.desk" 557 461
def eI:Obj:=tp [(v "self" 760),(v "store" 761)]
def eJ:Obj:=fv "take" "Desk.take" (y 35 8)
def eK:Obj:=co "stay" "Desk.stay" 733 265 3 3 409 181 [410,0,411,412,413] 739
def eL:Obj:=fv "row" "Desk.row" (y 35 13)
def eM:Obj:=fv "check_made" "Desk.check_made" (y 35 19)
def eN:Obj:=fv "told" "Desk.told" (y 35 11)
def eO:Obj:=l3 [(207,4,315),(212,4,322),(218,4,329),(221,4,336),(224,4,341),(228,4,346),(238,4,353),(241,4,360),(244,4,367),(247,4,374),(250,4,381),(253,4,388),(256,4,395),(259,4,400),(262,4,407),(265,4,414),(268,4,419),(271,4,426),(274,4,433),(278,4,440),(281,4,447),(284,4,454),(290,4,461)]
noncomputable def eP(P:Params):Obj:=dt [(d P "__module__" 608 (v "patchkin.desk" 557)),(d P "__qualname__" 610 (v "Desk" 609)),(d P "__firstlineno__" 612 (vi 205 611)),(d P "__init__" 619 (r 316)),(d P "begin" 627 (r 323)),(d P "stores" 634 (r 330)),(d P "patches" 641 (r 337)),(d P "has" 647 (r 342)),(d P "record" 653 (r 347)),(d P "cut" 664 (r 354)),(d P "back" 674 (r 361)),(d P "take" 684 (r 368)),(d P "drop" 693 (r 375)),(d P "leans" 701 (r 382)),(d P "told" 709 (r 389)),(d P "files" 717 (r 396)),(d P "row" 723 (r 401)),(d P "quarrels" 732 (r 408)),(d P "stay" 741 (r 415)),(d P "patches_of" 747 (r 420)),(d P "sight_of" 756 (r 427)),(d P "check_store" 764 (r 434)),(d P "check_made" 772 (r 441)),(d P "check_held" 781 (r 448)),(d P "check_new" 791 (r 455)),(d P "keep" 802 (r 462)),(d P "__static_attributes__" 806 (r 463))] 27
def eQ:Obj:=fv "sight_of" "Desk.sight_of" (y 35 17)
def eR:Obj:=fv "check_new" "Desk.check_new" (y 35 21)
def eS:Obj:=of "builtin_function_or_method" [(b "object.__init_subclass__"),(r 465)]
def eT:Obj:=fv "stay" "Desk.stay" (y 35 15)
def eU:Obj:=fv "check_store" "Desk.check_store" (y 35 18)
def eW:Obj:=of "super" [(r 465),(r 465),(r 465)]
noncomputable def eX:Obj:=fv "keep" "Desk.keep" (y 35 22)
def eY:Obj:=fv "patches_of" "Desk.patches_of" (y 35 16)
def eZ:Obj:=fv "files" "Desk.files" (y 35 12)
def e0:Obj:=fv "quarrels" "Desk.quarrels" (y 35 14)
def e1:Obj:=fv "check_held" "Desk.check_held" (y 35 20)
def e2:Obj:=tp [(v "cell" 827),(v "k" 828),(v "signs" 829),(v "size" 830),(v "base" 831),(v "far" 832),(v "found" 833),(v "j" 834)]
def e3:Obj:=co "_law_behind" "_law_behind" 888 359 2 3 522 181 [523,0,524,525,526] 896
def e4:Obj:=co "_law_text" "_law_text" 838 315 1 3 484 181 [485,0,0,0,486] 841
def e5:Obj:=fn "_law_pair" "_law_pair" (x 46) "law_patchkin_k03_recorded" 814 534
def e6:Obj:=tp [(v "found" 867)]
def e7:Obj:=fn "_law_next" "_law_next" (x 48) "law_patchkin_k03_recorded" 814 546
def e8:Obj:=fn "_law_name" "_law_name" (x 38) "law_patchkin_k03_recorded" 814 482
def e9:Obj:=tp [(v "rows" 902),(v "old" 903),(v "new" 904),(v "left" 905),(v "right" 906),(v "i" 907),(v "j" 908)]
def fa:Obj:=co "_law_edit" "_law_edit" 850 325 2 3 494 181 [495,0,496,497,498] 861
def fb:Obj:=co "_law_cell_at" "_law_cell_at" 816 299 2 3 470 181 [471,0,472,473,474] 821
def fc:Obj:=fn "_law_whole" "_law_whole" (x 42) "law_patchkin_k03_recorded" 814 506
def fe:Obj:=co "_law_row_form" "_law_row_form" 871 343 1 3 508 181 [509,0,510,511,512] 876
def ff:Obj:=fn "_law_names_are" "_law_names_are" (x 44) "law_patchkin_k03_recorded" 814 520
def fg:Obj:=tp [(v "found" 882),(v "due" 883),(v "name" 884)]
def fh:Obj:=fn "_law_texts" "_law_texts" (x 40) "law_patchkin_k03_recorded" 814 492
def fi:Obj:=co "_law_stays" "_law_stays" 912 373 2 3 536 181 [537,0,538,539,540] 920
def fj:Obj:=fn "_law_behind" "_law_behind" (x 45) "law_patchkin_k03_recorded" 814 527
def fk:Obj:=tp [(v "texts" 853),(v "cell" 854),(v "at" 855),(v "line" 856),(v "more" 857),(v "way" 858),(v "out" 859),(v "turned" 860)]
def fm:Obj:=co "_law_names_are" "_law_names_are" 879 352 2 3 515 181 [516,0,517,518,519] 885
def fo:Obj:=fn "_law_text" "_law_text" (x 39) "law_patchkin_k03_recorded" 814 487
def fp:Obj:=tp [(v "script" 819),(v "k" 820)]
def fq:Obj:=fn "_law_edit" "_law_edit" (x 41) "law_patchkin_k03_recorded" 814 499
def ft:Obj:=tp [(v "old" 891),(v "new" 892),(v "rows" 893),(v "i" 894),(v "j" 895)]
def fu:Obj:=co "_law_texts" "_law_texts" 844 323 3 3 489 181 [490,0,0,0,491] 847
def fw:Obj:=fn "_law_cell_at" "_law_cell_at" (x 37) "law_patchkin_k03_recorded" 814 475
def fx:Obj:=fn "_law_row_form" "_law_row_form" (x 43) "law_patchkin_k03_recorded" 814 513
def fy:Obj:=co "_law_next" "_law_next" 923 381 3 3 543 181 [544,0,0,0,545] 926
def fz:Obj:=co "_law_name" "_law_name" 824 303 2 3 477 181 [478,0,479,480,481] 835
def fA:Obj:=tp [(v "old" 915),(v "new" 916),(v "rows" 917),(v "stays" 918),(v "pair" 919)]
def fB:Obj:=co "_law_whole" "_law_whole" 864 341 1 3 501 181 [502,0,503,504,505] 868
def fC:Obj:=co "_law_pair" "_law_pair" 899 367 5 3 529 181 [530,0,531,532,533] 909
def fD:Obj:=fn "_law_stays" "_law_stays" (x 47) "law_patchkin_k03_recorded" 814 541
def fE:Obj:=tp [(v "row" 874),(v "line" 875)]
def fF(P:Params):Obj:=dt ((d P "__name__" 165 (v "law_patchkin_k03_recorded" 814))::hv P) 55
def fG:Obj:=fn "law" "law" (x 50) "law_patchkin_k03_recorded" 814 558
def fH:Obj:=fv "_law_names_are" "_law_names_are" (x 44)
def fI:Obj:=fv "_law_texts" "_law_texts" (x 40)
def fJ:Obj:=fv "_law_next" "_law_next" (x 48)
def fL:Obj:=fv "_law_name" "_law_name" (x 38)
def fM:Obj:=co "_law_lists_changed" "_law_lists_changed" 929 392 3 3 548 181 [549,0,550,551,552] 935
def fN:Obj:=fv "_law_whole" "_law_whole" (x 42)
def fO:Obj:=fv "_law_pair" "_law_pair" (x 46)
def fP:Obj:=fv "_law_row_form" "_law_row_form" (x 43)
def fQ:Obj:=fv "_law_stays" "_law_stays" (x 47)
def fR:Obj:=fv "_law_edit" "_law_edit" (x 41)
def fS:Obj:=fn "_law_lists_changed" "_law_lists_changed" (x 49) "law_patchkin_k03_recorded" 814 553
def fT:Obj:=fv "_law_cell_at" "_law_cell_at" (x 37)
def fU:Obj:=tp [(v "desk" 932),(v "store" 933),(v "file" 934)]
def fV:Obj:=fv "_law_text" "_law_text" (x 39)
def fW:Obj:=fv "_law_behind" "_law_behind" (x 45)
def fX:Obj:=co "law" "law" 938 397 1 3 555 181 [556,0,0,0,557] 941
def fY:Obj:=l3 [(1,0,20),(5,0,27),(13,0,32),(18,0,39),(23,0,46),(34,0,53),(36,0,66),(38,0,78),(40,0,90),(42,0,102),(44,0,114),(47,0,126),(54,0,147),(62,0,166),(68,0,171),(73,0,178),(82,0,185),(88,0,190),(95,0,195),(98,0,202),(108,0,209),(114,0,214),(130,0,221),(135,0,226),(150,0,233),(175,0,282),(181,0,289),(186,0,296),(197,0,301),(205,0,308)]
def fZ(P:Params):Obj:=dt ((d P "__name__" 165 (v "patchkin.desk" 557))::hs P) 40
def f1:Obj:=fv "_law_lists_changed" "_law_lists_changed" (x 49)
def f2:Obj:=l3 [(1,0,20),(5,0,27),(13,0,32),(18,0,39),(23,0,46),(34,0,53),(36,0,66),(38,0,78),(40,0,90),(42,0,102),(44,0,114),(47,0,126),(54,0,147),(62,0,166),(68,0,171),(73,0,178),(82,0,185),(88,0,190),(95,0,195),(98,0,202),(108,0,209),(114,0,214),(130,0,221),(135,0,226),(150,0,233),(175,0,282),(181,0,289),(186,0,296),(197,0,301),(205,0,308),(299,0,475),(303,0,482),(315,0,487),(323,0,492),(325,0,499),(341,0,506),(343,0,513),(352,0,520),(359,0,527),(367,0,534),(373,0,541),(381,0,546),(392,0,553),(397,0,558)]
def f3(P:Params):Obj:=dt ((d P "__name__" 165 (v "patchkin.errors" 236))::hm P) 19
def f6(P:Params):Obj:=dt ((d P "__name__" 165 (v "patchkin.desk" 557))::ht P) 41
def f7(P:Params):Obj:=dt ((d P "__name__" 165 (v "patchkin.order" 336))::hp P) 28
def f9(P:Params):Obj:=dt ((d P "__name__" 165 (v "patchkin.order" 336))::hq P) 33
def gb(P:Params):Obj:=dt ((d P "__name__" 165 (v "patchkin.errors" 236))::hk P) 17
def ge(P:Params):Obj:=dt ((d P "__name__" 165 (v "patchkin.order" 336))::ho P) 21
def gh(P:Params):Obj:=dt ((d P "__name__" 165 (v "patchkin.order" 336))::hn P) 20
def gj(P:Params):Obj:=dt ((d P "__name__" 165 (v "patchkin.errors" 236))::hj P) 16
def gm(P:Params):Obj:=dt ((d P "__name__" 165 (v "patchkin.desk" 557))::hr P) 36
def gp(P:Params):Obj:=dt ((d P "__name__" 165 (v "law_patchkin_k03_recorded" 814))::hu P) 53
def gr(P:Params):Obj:=dt ((d P "__name__" 165 (v "patchkin.errors" 236))::hi P) 15
def gu(P:Params):Obj:=dt ((d P "__name__" 165 (v "patchkin.errors" 236))::hl P) 18
def gz:BT:=n ab (n ap (f aa) (f a5)) (n aq (f aa) z)
def gA:BT:=n ay (n aa (f aa) (f bb)) (n aH (f aa) z)
def gB:BT:=n aJ (n ab (f ac) (f a6)) (n az (f a7) z)
def gC:BT:=n ab (n aA (f aZ) z) (n ac (f a0) z)
def gD:BT:=n aa (f aa) z
def gE:BT:=n aa (f ab) z
def gF:BT:=n aa (f aa) (f aa)
def gG:BT:=n aC (n ab (f aP) z) (n aa (f aV) z)
def gH:BT:=n aw (n ax (f aa) z) (n ab (f aY) z)
def gI:BT:=n ab (f ab) z
def gJ(P:Params):BT:=n ag (n aU (n ac (f (cv P)) z) (f aa)) (n (bh P) (f bB) (f cT))
def gK:BT:=n aa (n aV (n b5 (f cV) z) (f aa)) (n bl (f bF) (f ab))
def gL(P:Params):BT:=n ac (n (aQ P) (n aa (f cz) z) (f b8)) (n ab (f b9) (f cA))
def gM(P:Params):BT:=n aq (n aa (n (ce P) (f cH) z) (f cI)) (n aa (f aa) (f cJ))
def gN:BT:=n ab (n aY (n cg (f c7) z) (f ab)) (n aa (f aa) (f cL))
def gO:BT:=n aa (f ab) (f aa)
def gP(P:Params):BT:=n (aI P) (n aT (n ck (f cP) z) (f cm)) (n bt (f bU) (f aa))
def gQ(P:Params):BT:=n aB (n (aN P) (n bw (n cu (f aa) z) (f aa)) (n bz (f dh) (f dT))) (n a1 (n bA gD (f dU)) (n aa (f aa) (f e2)))
def gR(P:Params):BT:=n aU (n ac (n (cv P) (f e3) z) (f eL)) (n aa (f dV) (f dW))
def gS:BT:=n aO (n bi (n aa (f fH) z) (f ab)) (n b2 (f aa) (f dX))
def gT(P:Params):BT:=n aa (n (a2 P) (n bD (n cU (f e5) z) (f d0)) (n b3 (f aa) (f ab))) (n bj (n aa (f ab) (f eM)) (n cw (f dl) (f e6)))
def gU(P:Params):BT:=n aC (n ab (n aP (n aa gD (f eN)) (n bE (f dm) (f d1))) (n (a9 P) (n aa (n aa (f e7) z) (f d2)) (n b4 (f aa) (f e8)))) (n aa (n aV (n b5 (n cV (f e9) z) (f ab)) (n aa (f ab) (f d3))) (n bl (n bF (f eO) (f aa)) (n ab (f dn) (f fa))))
def gV(P:Params):BT:=n (aW P) (n bm (n cW (f ab) z) (f d4)) (n b6 (f aa) (f aa))
def gW(P:Params):BT:=n aD (n a3 (n bH (n cX (f aa) z) (f d6)) (n aa (f dp) (f fb))) (n (bI P) (n aa (f dq) (f ab)) (n cx (f aa) (f fc)))
def gX(P:Params):BT:=n am (n an (n ab (n ab (n ab (f fe) z) (f d7)) (n ab (f d8) (f aa))) (n ad (n b7 (n cY (f fJ) z) (f ab)) (n cy (f dr) (f fL)))) (n ac (n (aQ P) (n aa (n cz (f aa) z) (f d9)) (n b8 (f ds) (f ea))) (n ab (n b9 (f (eP P)) (f eb)) (n cA (f aa) (f aa))))
def gY:BT:=n ad (n bn (n cB (f ff) z) (f aa)) (n cC (f du) (f ab))
def gZ:BT:=n be (n ab (n ca (n dw (f ab) z) (f aa)) (n ab (f ec) (f aa))) (n aa (n bJ (f aa) (f ed)) (n aa (f ab) (f fN)))
def g0(P:Params):BT:=n (aE P) (n bo (n cD (f fg) z) (f ee)) (n aa (f ab) (f eR))
def g1(P:Params):BT:=n aF (n ad (n aa (n aa (f fO) z) (f aa)) (n cE (f dy) (f eS))) (n (bf P) (n ab (f ef) (f eg)) (n aa (f eh) (f aa)))
def g2:BT:=n ab (n bL (n cF (f aa) z) (f aa)) (n ab (f dz) (f ei))
def g3(P:Params):BT:=n ad (n (aX P) (n (bM P) (n ab (f fi) z) (f eT)) (n cc (f ab) (f aa))) (n bN (n cd (f aa) (f aa)) (n c3 (f dA) (f ab)))
def g4(P:Params):BT:=n ab (n ap (n aa (n aa (n aa (f fP) z) (f ab)) (n aa (f aa) (f ej))) (n a5 (n bO (n dB (f ab) z) (f aa)) (n ab (f ek) (f aa)))) (n aq (n aa (n (ce P) (n cH (f fj) z) (f el)) (n cI (f dC) (f (em P)))) (n aa (n aa (f ac) (f eU)) (n cJ (f dD) (f fk))))
def g5(P:Params):BT:=n aR (n (bp P) (n ab (f fm) z) (f en)) (n aa (f eo) (f aa))
def g6(P:Params):BT:=n (av P) (n aa (n aa gD (f ep)) (n aa (f ab) (f fp))) (n bq (n cf (f dF) (f er)) (n cK (f aa) (f aa)))
def g7:BT:=n aa (n bP (n c6 (f ab) z) (f es)) (n bQ (f aa) (f aa))
def g8:BT:=n ab (n aY (n cg (n c7 (f aa) z) (f eu)) (n ab (f ev) (f eW))) (n aa (n aa (f ew) (f ab)) (n cL (f aa) (f fq)))
def g9:BT:=n aa (n bR (n cM (f ft) z) (f ey)) (n aa (f ab) (f eX))
def ha:BT:=n aH (n aa (n bT (n aa (f fQ) z) (f aa)) (n cN (f aa) (f fw))) (n aa (n ab (f dI) (f ez)) (n aa (f eA) (f aa)))
def hb(P:Params):BT:=n aa (n aa (n aS (n br (n cO (f fx) z) (f aa)) (n ch (f dJ) (f ab))) (n ac (n ci (n c8 (f fy) z) (f eY)) (n cj (f dK) (f fz)))) (n (aI P) (n aT (n ck (n cP (f ab) z) (f aa)) (n cm (f aa) (f eB))) (n bt (n bU (f aa) (f eC)) (n aa (f ab) (f fR))))
def hc:BT:=n ac (n bu gD (f eZ)) (n cn (f dL) (f eD))
def hd:BT:=n az (n a7 (n bV (n da (f fA) z) (f ab)) (n cq (f dM) (f fT))) (n ac (n bW (f eF) (f aa)) (n ab (f dN) (f fB)))
def he:BT:=n aL (n bv (n cQ (f aa) z) (f aa)) (n ab (f dO) (f eG))
def hf:BT:=n aM (n ac (n ab (n ab (f fC) z) (f e0)) (n cr (f dP) (f aa))) (n bg (n bY (f aa) (f aa)) (n dc (f dQ) (f ab)))
def hg:BT:=n aZ (n aa (n cR (f fW) z) (f ab)) (n cs (f aa) (f eH))
def hh:BT:=n ac (n a0 (n bZ (n dg (f fD) z) (f eK)) (n ct (f dR) (f ab))) (n b0 (n b1 (f ab) (f e1)) (n cS (f dS) (f fE)))
end
end TW
namespace PySem.W.Fast
open PySem PySem.W L2 PK TW
noncomputable section
def tw15153323905535529007:Program:=PySem.Challenge.pw_patchkin_k03_recorded
theorem te15153323905535529007:tw15153323905535529007=tw15153323905535529007:=rfl
def tw298149978616786784:Params->BT:=λP=>n (boot_o_0 P) (n (boot_o_1 P) (n (f3 P) (n (boot_o_7 P) (n aa (n aB (f (aN P)) (f a1)) (n ag (f aU) z)) (n ab (n ai (f aO) (f a8)) (n aa (f (a2 P)) z))) (n aa (n aC (n ab (f aP) (f (a9 P))) (n aa (f aV) z)) (n aj (n al (f (aW P)) (f ba)) (n aD (f a3) z)))) (n (boot_o_5 P) (n (boot_o_9 P) (n am (n an (f ab) (f ad)) (n ac (f (aQ P)) z)) (n aa (n aa (f ad) (f (a4 P))) (n (ty (cl (S "PatchError") [(w "ValueError")] [(r 57),(w "ValueError"),(w "Exception"),(w "BaseException"),(w "object")] 56 (S "PatchError") true [] [(r 70),(r 82),(r 94),(r 106)] false none false) [(k (r 48)),none,(k (v "PatchError" 238)),(k (v "PatchError" 246)),(k (b "ValueError.__new__")),(k (vl true))]) (f ab) z))) (n ae (n ao (n aa (f (aE P)) (f ab)) (n aF (f ad) z)) (n aa (n aG (f ab) z) (n ad (f (aX P)) z))))) (n (boot_o_2 P) (n (boot_o_4 P) (n (boot_o_8 P) gz (n ar (n au (f aR) (f aa)) (n (av P) (f aa) z))) (n (l3 [(1,0,20),(5,0,27),(13,0,32),(18,0,39),(23,0,46),(34,0,53),(36,0,66),(38,0,78),(40,0,90),(42,0,102)]) (n aw (n ax (f aa) (f aa)) (n ab (f aY) z)) gA)) (n (boot_o_6 P) (n (boot_o_10 P) (n aa (n aa (f aS) (f ac)) (n (aI P) (f aT) z)) gB) (n af (n aa (n aK (f aL) (f bc)) (n aM (f ac) z)) gC)))
theorem te298149978616786784:tw298149978616786784=tw298149978616786784:=rfl
def tw18379025384101550372:Params->BT:=λP=>n (boot_o_0 P) (n (boot_o_1 P) (n (f6 P) (n (boot_o_7 P) (n aa (n aB (n (aN P) (n bw (f cu) (f aa)) (n bz (f dh) (f dT))) (n a1 (n bA (f aa) (f dU)) gD)) (n ag (n aU (n ac (f (cv P)) (f eL)) (n aa (f dV) (f dW))) (n (bh P) (n bB (f aa) (f aa)) (n cT (f di) z)))) (n ab (n ai (n aO (n bi (f aa) (f ab)) (n b2 (f aa) (f dX))) (n a8 (n bC (f dj) (f dY)) (n aa (f dZ) z))) (n aa (n (a2 P) (n bD (f cU) (f d0)) (n b3 (f aa) z)) (n bj (n aa (f ab) (f eM)) (n cw (f dl) z))))) (n aa (n aC (n ab (n aP (n aa (f aa) (f eN)) (n bE (f dm) (f d1))) (n (a9 P) (n aa (f aa) (f d2)) (n b4 (f aa) z))) (n aa (n aV (n b5 (f cV) (f ab)) (n aa (f ab) (f d3))) (n bl (n bF (f eO) (f aa)) (n ab (f dn) z)))) (n aj (n al (n (aW P) (n bm (f cW) (f d4)) (n b6 (f aa) (f aa))) (n ba (n bG (f ab) (f d5)) gE)) (n aD (n a3 (n bH (f cX) (f d6)) (n aa (f dp) z)) (n (bI P) (n aa (f dq) (f ab)) (n cx (f aa) z)))))) (n (boot_o_5 P) (n (boot_o_9 P) (n am (n an (n ab (n ab (f ab) (f d7)) (n ab (f d8) (f aa))) (n ad (n b7 (f cY) (f ab)) (n cy (f dr) z))) (n ac (n (aQ P) (n aa (f cz) (f d9)) (n b8 (f ds) (f ea))) (n ab (n b9 (f (eP P)) (f eb)) (n cA (f aa) z)))) (n aa (n aa (n ad (n bn (f cB) (f aa)) (n cC (f du) (f ab))) (n (a4 P) (n ab (f cZ) (f eQ)) (n c0 (f dv) z))) (n be (n ab (n ca (f dw) (f aa)) (n ab (f ec) z)) (n aa (n bJ (f aa) (f ed)) gE)))) (n ae (n ao (n aa (n (aE P) (n bo (f cD) (f ee)) (n aa (f ab) (f eR))) (n ab (n cb (f c1) (f aa)) (n ac (f dx) z))) (n aF (n ad gF (n cE (f dy) (f eS))) (n (bf P) (n ab (f ef) (f eg)) (n aa (f eh) z)))) (n aa (n aG (n ab (n bL (f cF) (f aa)) (n ab (f dz) (f ei))) (n ad (n aa (f c2) (f ab)) (n cG (f aa) z))) (n ad (n (aX P) (n (bM P) (f ab) (f eT)) (n cc (f ab) z)) (n bN (n cd (f aa) (f aa)) (n c3 (f dA) z))))))) (n (boot_o_2 P) (n (boot_o_4 P) (n (boot_o_8 P) (n ab (n ap (n aa (n aa (f aa) (f ab)) (n aa (f aa) (f ej))) (n a5 (n bO (f dB) (f aa)) (n ab (f ek) z))) (n aq (n aa (n (ce P) (f cH) (f el)) (n cI (f dC) (f (em P)))) (n aa (n aa (f ac) (f eU)) (n cJ (f dD) z)))) (n ar (n au (n aR (n (bp P) (f ab) (f en)) (n aa (f eo) (f aa))) (n aa (n aa (f c4) (f aa)) (n c5 (f dE) z))) (n (av P) (n aa (n aa (f aa) (f ep)) gE) (n bq (n cf (f dF) (f er)) (n cK (f aa) z))))) (n fY (n aw (n ax (n aa (n bP (f c6) (f es)) (n bQ (f aa) (f aa))) (n aa (n ab (f ab) (f et)) gE)) (n ab (n aY (n cg (f c7) (f eu)) (n ab (f ev) (f eW))) (n aa (n aa (f ew) (f ab)) (n cL (f aa) z)))) (n ay (n aa (n aa (n bR (f cM) (f ey)) (n aa (f ab) (f eX))) (n bb (n bS (f dG) (f aa)) (n ab (f dH) z))) (n aH (n aa (n bT (f aa) (f aa)) (n cN (f aa) z)) (n aa (n ab (f dI) (f ez)) (n aa (f eA) z)))))) (n (boot_o_6 P) (n (boot_o_10 P) (n aa (n aa (n aS (n br (f cO) (f aa)) (n ch (f dJ) (f ab))) (n ac (n ci (f c8) (f eY)) (n cj (f dK) z))) (n (aI P) (n aT (n ck (f cP) (f aa)) (n cm (f aa) (f eB))) (n bt (n bU (f aa) (f eC)) gE))) (n aJ (n ab (n ac (n bu (f aa) (f eZ)) (n cn (f dL) (f eD))) (n a6 (n cp (f aa) (f eE)) (n c9 (f aa) z))) (n az (n a7 (n bV (f da) (f ab)) (n cq (f dM) z)) (n ac (n bW (f eF) (f aa)) (n ab (f dN) z))))) (n af (n aa (n aK (n aL (n bv (f cQ) (f aa)) (n ab (f dO) (f eG))) (n bc (n bX (f aa) (f ab)) (n (db P) (f aa) z))) (n aM (n ac (n ab (f ab) (f e0)) (n cr (f dP) z)) (n bg (n bY (f aa) (f aa)) (n dc (f dQ) z)))) (n ab (n aA (n aZ (n aa (f cR) (f ab)) (n cs (f aa) (f eH))) (n ac (n ab (f df) (f eI)) (n aa (f eJ) z))) (n ac (n a0 (n bZ (f dg) (f eK)) (n ct (f dR) z)) (n b0 (n b1 (f ab) (f e1)) (n cS (f dS) z)))))))
theorem te18379025384101550372:tw18379025384101550372=tw18379025384101550372:=rfl
def tw5322374977655242154:Params->BT:=λP=>n (boot_o_0 P) (n (boot_o_1 P) (n (f7 P) (n (boot_o_7 P) (n aa (n aB (n (aN P) (f bw) (f bz)) (n a1 (f bA) z)) (n ag (n aU (f ac) z) (n (bh P) (f bB) z))) (n ab (n ai (n aO (f bi) z) (n a8 (f bC) z)) (n aa (n (a2 P) (f bD) z) (n bj (f aa) z)))) (n aa (n aC (n ab (n aP (f aa) (f bE)) (n (a9 P) (f aa) z)) (n aa (n aV (f b5) z) (n bl (f bF) z))) (n aj (n al (n (aW P) (f bm) z) (n ba (f bG) z)) (n aD (n a3 (f bH) z) (n (bI P) (f aa) z))))) (n (boot_o_5 P) (n (boot_o_9 P) (n am (n an (n ab (f ab) (f ab)) (n ad (f b7) z)) (n ac (n (aQ P) (f aa) z) (n ab (f b9) z))) (n aa (n aa (n ad (f bn) z) (n (a4 P) (f ab) z)) (n be (n ab (f ca) z) (n aa (f bJ) z)))) (n ae (n ao (n aa (n (aE P) (f bo) z) (n ab (f cb) z)) (n aF (n ad (f aa) z) (n (bf P) (f ab) z))) (n aa (n aG (n ab (f bL) z) (n ad (f aa) z)) (n ad (n (aX P) (f (bM P)) z) (n bN (f cd) z)))))) (n (boot_o_2 P) (n (boot_o_4 P) (n (boot_o_8 P) (n ab (n ap gF (n a5 (f bO) z)) (n aq (n aa (f (ce P)) z) gD)) (n ar (n au (n aR (f (bp P)) z) gD) (n (av P) gD (n bq (f cf) z)))) (n (l3 [(1,0,20),(5,0,27),(13,0,32),(18,0,39),(23,0,46),(34,0,53),(36,0,66),(38,0,78),(40,0,90),(42,0,102),(44,0,114),(47,0,126),(54,0,147),(62,0,166),(68,0,171),(73,0,178),(82,0,185),(88,0,190),(95,0,195)]) (n aw (n ax (n aa (f bP) (f bQ)) gE) (n ab (n aY (f cg) z) gD)) (n ay (n aa (n aa (f bR) z) (n bb (f bS) z)) (n aH (n aa (f bT) z) gE)))) (n (boot_o_6 P) (n (boot_o_10 P) (n aa (n aa (n aS (f br) (f ch)) (n ac (f ci) z)) (n (aI P) (n aT (f ck) z) (n bt (f bU) z))) (n aJ (n ab (n ac (f bu) z) (n a6 (f cp) z)) (n az (n a7 (f bV) z) (n ac (f bW) z)))) (n af (n aa (n aK (n aL (f bv) z) (n bc (f bX) z)) (n aM (n ac (f ab) z) (n bg (f bY) z))) (n ab (n aA (n aZ (f aa) z) (n ac (f ab) z)) (n ac (n a0 (f bZ) z) (n b0 (f b1) z))))))
theorem te5322374977655242154:tw5322374977655242154=tw5322374977655242154:=rfl
def tw3649599082414466191:Params->BT:=λP=>n (boot_o_0 P) (n (boot_o_1 P) (n (f9 P) (n (boot_o_7 P) (n aa (n aB (n (aN P) (f bw) (f bz)) (n a1 (f bA) (f aa))) (n ag (n aU (f ac) (f aa)) (n (bh P) (f bB) z))) (n ab (n ai (n aO (f bi) (f b2)) (n a8 (f bC) z)) (n aa (n (a2 P) (f bD) (f b3)) (n bj (f aa) z)))) (n aa (n aC (n ab (n aP (f aa) (f bE)) (n (a9 P) (f aa) (f b4))) (n aa (n aV (f b5) (f aa)) (n bl (f bF) z))) (n aj (n al (n (aW P) (f bm) (f b6)) (n ba (f bG) z)) (n aD (n a3 (f bH) (f aa)) (n (bI P) (f aa) z))))) (n (boot_o_5 P) (n (boot_o_9 P) (n am (n an (n ab (f ab) (f ab)) (n ad (f b7) (f cy))) (n ac (n (aQ P) (f aa) (f b8)) (n ab (f b9) z))) (n aa (n aa (n ad (f bn) (f cC)) (n (a4 P) (f ab) z)) (n be (n ab (f ca) (f ab)) (n aa (f bJ) z)))) (n ae (n ao (n aa (n (aE P) (f bo) (f aa)) (n ab (f cb) z)) (n aF (n ad (f aa) (f cE)) (n (bf P) (f ab) z))) (n aa (n aG (n ab (f bL) (f ab)) (n ad (f aa) z)) (n ad (n (aX P) (f (bM P)) (f cc)) (n bN (f cd) z)))))) (n (boot_o_2 P) (n (boot_o_4 P) (n (boot_o_8 P) (n ab (n ap gF (n a5 (f bO) (f ab))) (n aq (n aa (f (ce P)) (f cI)) gD)) (n ar (n au (n aR (f (bp P)) (f aa)) gD) (n (av P) gF (n bq (f cf) z)))) (n (l3 [(1,0,20),(5,0,27),(13,0,32),(18,0,39),(23,0,46),(34,0,53),(36,0,66),(38,0,78),(40,0,90),(42,0,102),(44,0,114),(47,0,126),(54,0,147),(62,0,166),(68,0,171),(73,0,178),(82,0,185),(88,0,190),(95,0,195),(98,0,202),(108,0,209),(114,0,214),(130,0,221),(135,0,226)]) (n aw (n ax (n aa (f bP) (f bQ)) gE) (n ab (n aY (f cg) (f ab)) gD)) (n ay (n aa (n aa (f bR) (f aa)) (n bb (f bS) z)) (n aH (n aa (f bT) (f cN)) gE)))) (n (boot_o_6 P) (n (boot_o_10 P) (n aa (n aa (n aS (f br) (f ch)) (n ac (f ci) (f cj))) (n (aI P) (n aT (f ck) (f cm)) (n bt (f bU) z))) (n aJ (n ab (n ac (f bu) (f cn)) (n a6 (f cp) z)) (n az (n a7 (f bV) (f cq)) (n ac (f bW) z)))) (n af (n aa (n aK (n aL (f bv) (f ab)) (n bc (f bX) z)) (n aM (n ac (f ab) (f cr)) (n bg (f bY) z))) (n ab (n aA (n aZ (f aa) (f cs)) (n ac (f ab) z)) (n ac (n a0 (f bZ) (f ct)) (n b0 (f b1) z))))))
theorem te3649599082414466191:tw3649599082414466191=tw3649599082414466191:=rfl
def tw14052841322274036463:Params->BT:=λP=>n (boot_o_0 P) (n (boot_o_1 P) (n (gb P) (n (boot_o_7 P) (n aa (n aB (f (aN P)) z) (n ag (f aU) z)) (n ab (n ai (f aO) z) (f aa))) (n aa gG (n aj (n al (f (aW P)) z) (f aD)))) (n (boot_o_5 P) (n (boot_o_9 P) (n am (n an (f ab) z) (n ac (f (aQ P)) z)) (n aa (n aa (f ad) z) (f (ty (cl (S "PatchError") [(w "ValueError")] [(r 57),(w "ValueError"),(w "Exception"),(w "BaseException"),(w "object")] 56 (S "PatchError") true [] [(r 70),(r 82)] false none false) [(k (r 48)),none,(k (v "PatchError" 238)),(k (v "PatchError" 246)),(k (b "ValueError.__new__")),(k (vl true))])))) (n ae (n ao (n aa (f (aE P)) z) (f aF)) (n aa (n aG (f ab) z) (f ad))))) (n (boot_o_2 P) (n (boot_o_4 P) (n (boot_o_8 P) (n ab (n ap (f aa) z) (n aq (f aa) z)) (n ar (n au (f aR) z) (f (av P)))) (n (l3 [(1,0,20),(5,0,27),(13,0,32),(18,0,39),(23,0,46),(34,0,53),(36,0,66),(38,0,78)]) gH (n ay gD (f aH)))) (n (boot_o_6 P) (n (boot_o_10 P) (n aa (n aa (f aS) z) (n (aI P) (f aT) z)) (n aJ (n ab (f ac) z) (f az))) (n af (n aa (n aK (f aL) z) (f aM)) (n ab (n aA (f aZ) z) (f ac)))))
theorem te14052841322274036463:tw14052841322274036463=tw14052841322274036463:=rfl
def tw14032859856769755055:Params->BT:=λP=>n (boot_o_0 P) (n (boot_o_1 P) (n (ge P) (n (boot_o_7 P) (n aa (n aB (n (aN P) (f bw) z) (f a1)) (n ag (f aU) (f (bh P)))) (n ab (n ai (n aO (f bi) z) (f a8)) (n aa (f (a2 P)) (f bj)))) (n aa (n aC (n ab (n aP (f aa) z) (f (a9 P))) (n aa (f aV) (f bl))) (n aj (n al (n (aW P) (f bm) z) (f ba)) (n aD (f a3) (f (bI P)))))) (n (boot_o_5 P) (n (boot_o_9 P) (n am (n an gI (f ad)) (n ac (f (aQ P)) (f ab))) (n aa (n aa (n ad (f bn) z) (f (a4 P))) (n be (f ab) (f aa)))) (n ae (n ao (n aa (n (aE P) (f bo) z) (f ab)) (n aF (f ad) (f (bf P)))) (n aa (n aG (n ab (f bL) z) (f ad)) (n ad (f (aX P)) (f bN)))))) (n (boot_o_2 P) (n (boot_o_4 P) (n (boot_o_8 P) (n ab (n ap gD (f a5)) (n aq (f aa) (f aa))) (n ar (n au (n aR (f (bp P)) z) (f aa)) (n (av P) (f aa) (f bq)))) (n (l3 [(1,0,20),(5,0,27),(13,0,32),(18,0,39),(23,0,46),(34,0,53),(36,0,66),(38,0,78),(40,0,90),(42,0,102),(44,0,114),(47,0,126)]) (n aw (n ax (n aa (f bP) z) (f aa)) (n ab (f aY) (f aa))) (n ay (n aa (n aa (f bR) z) (f bb)) (n aH (f aa) (f aa))))) (n (boot_o_6 P) (n (boot_o_10 P) (n aa (n aa (n aS (f br) z) (f ac)) (n (aI P) (f aT) (f bt))) (n aJ (n ab (n ac (f bu) z) (f a6)) (n az (f a7) (f ac)))) (n af (n aa (n aK (n aL (f bv) z) (f bc)) (n aM (f ac) (f bg))) (n ab (n aA (f aZ) (f ac)) (n ac (f a0) (f b0))))))
theorem te14032859856769755055:tw14032859856769755055=tw14032859856769755055:=rfl
def tw5434856796297747985:Params->BT:=λP=>n (boot_o_0 P) (n (boot_o_1 P) (n (fZ P) (n (boot_o_7 P) (n aa (n aB (n (aN P) (n bw (f cu) z) (f bz)) (n a1 (n bA (f aa) z) (f aa))) (gJ P)) (n ab (n ai (n aO (n bi (f aa) z) (f b2)) (n a8 (n bC (f dj) z) (f aa))) (n aa (n (a2 P) (n bD (f cU) z) (f b3)) (n bj (f aa) (f cw))))) (n aa (n aC (n ab (n aP gD (f bE)) (n (a9 P) gD (f b4))) gK) (n aj (n al (n (aW P) (n bm (f cW) z) (f b6)) (n ba (n bG (f ab) z) (f aa))) (n aD (n a3 (n bH (f cX) z) (f aa)) (n (bI P) (f aa) (f cx)))))) (n (boot_o_5 P) (n (boot_o_9 P) (n am (n an (n ab gI (f ab)) (n ad (n b7 (f cY) z) (f cy))) (gL P)) (n aa (n aa (n ad (n bn (f cB) z) (f cC)) (n (a4 P) (n ab (f cZ) z) (f c0))) (n be (n ab (n ca (f dw) z) (f ab)) (n aa (f bJ) (f aa))))) (n ae (n ao (n aa (n (aE P) (n bo (f cD) z) (f aa)) (n ab (n cb (f c1) z) (f ac))) (n aF (n ad gD (f cE)) (n (bf P) (f ab) (f aa)))) (n aa (n aG (n ab (n bL (f cF) z) (f ab)) (n ad (n aa (f c2) z) (f cG))) (n ad (n (aX P) (n (bM P) (f ab) z) (f cc)) (n bN (f cd) (f c3))))))) (n (boot_o_2 P) (n (boot_o_4 P) (n (boot_o_8 P) (n ab (n ap (n aa gD (f aa)) (n a5 (n bO (f dB) z) (f ab))) (gM P)) (n ar (n au (n aR (n (bp P) (f ab) z) (f aa)) (n aa (n aa (f c4) z) (f c5))) (n (av P) (n aa gD (f aa)) (n bq (f cf) (f cK))))) (n (l3 [(1,0,20),(5,0,27),(13,0,32),(18,0,39),(23,0,46),(34,0,53),(36,0,66),(38,0,78),(40,0,90),(42,0,102),(44,0,114),(47,0,126),(54,0,147),(62,0,166),(68,0,171),(73,0,178),(82,0,185),(88,0,190),(95,0,195),(98,0,202),(108,0,209),(114,0,214),(130,0,221),(135,0,226),(150,0,233),(175,0,282),(181,0,289),(186,0,296),(197,0,301)]) (n aw (n ax (n aa (n bP (f c6) z) (f bQ)) (n aa gI (f aa))) gN) (n ay (n aa (n aa (n bR (f cM) z) (f aa)) (n bb (n bS (f dG) z) (f ab))) (n aH (n aa (n bT (f aa) z) (f cN)) gO)))) (n (boot_o_6 P) (n (boot_o_10 P) (n aa (n aa (n aS (n br (f cO) z) (f ch)) (n ac (n ci (f c8) z) (f cj))) (gP P)) (n aJ (n ab (n ac (n bu (f aa) z) (f cn)) (n a6 (n cp (f aa) z) (f c9))) (n az (n a7 (n bV (f da) z) (f cq)) (n ac (f bW) (f ab))))) (n af (n aa (n aK (n aL (n bv (f cQ) z) (f ab)) (n bc (n bX (f aa) z) (f (db P)))) (n aM (n ac gI (f cr)) (n bg (f bY) (f dc)))) (n ab (n aA (n aZ (n aa (f cR) z) (f cs)) (n ac (n ab (f df) z) (f aa))) (n ac (n a0 (n bZ (f dg) z) (f ct)) (n b0 (f b1) (f cS)))))))
theorem te5434856796297747985:tw5434856796297747985=tw5434856796297747985:=rfl
def tw1007015680020610610:Params->BT:=λP=>n (boot_o_0 P) (n (boot_o_1 P) (n (gh P) (n (boot_o_7 P) (n aa (n aB (f (aN P)) (f a1)) (n ag (f aU) (f (bh P)))) (n ab (n ai (f aO) (f a8)) (n aa (f (a2 P)) (f bj)))) (n aa (n aC (n ab (f aP) (f (a9 P))) (n aa (f aV) (f bl))) (n aj (n al (f (aW P)) (f ba)) (n aD (f a3) z)))) (n (boot_o_5 P) (n (boot_o_9 P) (n am (n an (f ab) (f ad)) (n ac (f (aQ P)) (f ab))) (n aa (n aa (f ad) (f (a4 P))) (n be (f ab) z))) (n ae (n ao (n aa (f (aE P)) (f ab)) (n aF (f ad) (f (bf P)))) (n aa (n aG (f ab) (f ad)) (n ad (f (aX P)) z))))) (n (boot_o_2 P) (n (boot_o_4 P) (n (boot_o_8 P) (n ab (n ap (f aa) (f a5)) (n aq (f aa) (f aa))) (n ar (n au (f aR) (f aa)) (n (av P) (f aa) (f bq)))) (n (l3 [(1,0,20),(5,0,27),(13,0,32),(18,0,39),(23,0,46),(34,0,53),(36,0,66),(38,0,78),(40,0,90),(42,0,102),(44,0,114)]) (n aw (n ax (f aa) (f aa)) (n ab (f aY) (f aa))) gA)) (n (boot_o_6 P) (n (boot_o_10 P) (n aa (n aa (f aS) (f ac)) (n (aI P) (f aT) (f bt))) gB) (n af (n aa (n aK (f aL) (f bc)) (n aM (f ac) (f bg))) (n ab (n aA (f aZ) (f ac)) (n ac (f a0) z)))))
theorem te1007015680020610610:tw1007015680020610610=tw1007015680020610610:=rfl
def tw18091344687855485267:Params->BT:=λP=>n (boot_o_0 P) (n (boot_o_1 P) (n (gj P) (n (boot_o_7 P) (n aa (n aB (f (aN P)) z) (f ag)) (n ab (n ai (f aO) z) (f aa))) (n aa (n aC (n ab (f aP) z) (f aa)) (n aj (f al) (f aD)))) (n (boot_o_5 P) (n (boot_o_9 P) (n am (n an (f ab) z) (f ac)) (n aa (f aa) (f (ty (cl (S "PatchError") [(w "ValueError")] [(r 57),(w "ValueError"),(w "Exception"),(w "BaseException"),(w "object")] 56 (S "PatchError") true [] [(r 70)] false none false) [(k (r 48)),none,(k (v "PatchError" 238)),(k (v "PatchError" 246)),(k (b "ValueError.__new__")),(k (vl true))])))) (n ae (n ao (n aa (f (aE P)) z) (f aF)) (n aa (f aG) (f ad))))) (n (boot_o_2 P) (n (boot_o_4 P) (n (boot_o_8 P) (n ab (n ap (f aa) z) (f aq)) (n ar (n au (f aR) z) (f (av P)))) (n (l3 [(1,0,20),(5,0,27),(13,0,32),(18,0,39),(23,0,46),(34,0,53),(36,0,66)]) (n aw (n ax (f aa) z) (f ab)) (n ay (f aa) (f aH)))) (n (boot_o_6 P) (n (boot_o_10 P) (n aa (n aa (f aS) z) (f (aI P))) (n aJ (f ab) (f az))) (n af (n aa (n aK (f aL) z) (f aM)) (n ab (f aA) (f ac)))))
theorem te18091344687855485267:tw18091344687855485267=tw18091344687855485267:=rfl
def tw1544990722523098835:Params->BT:=λP=>n (boot_o_0 P) (n (boot_o_1 P) (n (gm P) (n (boot_o_7 P) (n aa (n aB (n (aN P) (n bw (f cu) z) (f bz)) (n a1 (f bA) (f aa))) (gJ P)) (n ab (n ai (n aO (n bi (f aa) z) (f b2)) (n a8 (f bC) (f aa))) (n aa (n (a2 P) (f bD) (f b3)) (n bj (f aa) (f cw))))) (n aa (n aC (n ab (n aP gD (f bE)) (n (a9 P) (f aa) (f b4))) gK) (n aj (n al (n (aW P) (n bm (f cW) z) (f b6)) (n ba (f bG) (f aa))) (n aD (n a3 (f bH) (f aa)) (n (bI P) (f aa) (f cx)))))) (n (boot_o_5 P) (n (boot_o_9 P) (n am (n an (n ab gI (f ab)) (n ad (f b7) (f cy))) (gL P)) (n aa (n aa (n ad (n bn (f cB) z) (f cC)) (n (a4 P) (f ab) (f c0))) (n be (n ab (f ca) (f ab)) (n aa (f bJ) (f aa))))) (n ae (n ao (n aa (n (aE P) (n bo (f cD) z) (f aa)) (n ab (f cb) (f ac))) (n aF (n ad (f aa) (f cE)) (n (bf P) (f ab) (f aa)))) (n aa (n aG (n ab (n bL (f cF) z) (f ab)) (n ad (f aa) (f cG))) (n ad (n (aX P) (f (bM P)) (f cc)) (n bN (f cd) (f c3))))))) (n (boot_o_2 P) (n (boot_o_4 P) (n (boot_o_8 P) (n ab (n ap (n aa gD (f aa)) (n a5 (f bO) (f ab))) (gM P)) (n ar (n au (n aR (n (bp P) (f ab) z) (f aa)) (n aa (f aa) (f c5))) (n (av P) gF (n bq (f cf) (f cK))))) (n (l3 [(1,0,20),(5,0,27),(13,0,32),(18,0,39),(23,0,46),(34,0,53),(36,0,66),(38,0,78),(40,0,90),(42,0,102),(44,0,114),(47,0,126),(54,0,147),(62,0,166),(68,0,171),(73,0,178),(82,0,185),(88,0,190),(95,0,195),(98,0,202),(108,0,209),(114,0,214),(130,0,221),(135,0,226),(150,0,233)]) (n aw (n ax (n aa (n bP (f c6) z) (f bQ)) gO) gN) (n ay (n aa (n aa (n bR (f cM) z) (f aa)) (n bb (f bS) (f ab))) (n aH (n aa (f bT) (f cN)) gO)))) (n (boot_o_6 P) (n (boot_o_10 P) (n aa (n aa (n aS (n br (f cO) z) (f ch)) (n ac (f ci) (f cj))) (gP P)) (n aJ (n ab (n ac (n bu (f aa) z) (f cn)) (n a6 (f cp) (f c9))) (n az (n a7 (f bV) (f cq)) (n ac (f bW) (f ab))))) (n af (n aa (n aK (n aL (n bv (f cQ) z) (f ab)) (n bc (f bX) (f (db P)))) (n aM (n ac (f ab) (f cr)) (n bg (f bY) (f dc)))) (n ab (n aA (n aZ (n aa (f cR) z) (f cs)) (n ac (f ab) (f aa))) (n ac (n a0 (f bZ) (f ct)) (n b0 (f b1) (f cS)))))))
theorem te1544990722523098835:tw1544990722523098835=tw1544990722523098835:=rfl
def tw13151247756866585012:Params->BT:=λP=>n (boot_o_0 P) (n (boot_o_1 P) (n (fF P) (n (boot_o_7 P) (n aa (gQ P) (n ag (gR P) (n (bh P) (n bB (n aa (f fG) z) (f aa)) (n cT (f di) (f ab))))) (n ab (n ai gS (n a8 (n bC (n dj (f aa) z) (f dY)) (n aa (f dZ) (f e4)))) (gT P))) (n aa (gU P) (n aj (n al (gV P) (n ba (n bG (n ab (f aa) z) (f d5)) (n aa (f ab) (f fI)))) (gW P)))) (n (boot_o_5 P) (n (boot_o_9 P) (gX P) (n aa (n aa gY (n (a4 P) (n ab (n cZ (f fM) z) (f eQ)) (n c0 (f dv) (f aa)))) gZ)) (n ae (n ao (n aa (g0 P) (n ab (n cb (n c1 (f ab) z) (f aa)) (n ac (f dx) (f ab)))) (g1 P)) (n aa (n aG g2 (n ad (n aa (n c2 (f (fv "law" "law" (x 50))) z) (f ab)) (n cG (f aa) (f fh)))) (g3 P))))) (n (boot_o_2 P) (n (boot_o_4 P) (n (boot_o_8 P) (g4 P) (n ar (n au (g5 P) (n aa (n aa (n c4 (f f1) z) (f aa)) (n c5 (f dE) (f fo)))) (g6 P))) (n f2 (n aw (n ax g7 (n aa (n ab (n ab (f aa) z) (f et)) gO)) g8) (n ay (n aa g9 (n bb (n bS (n dG (f ab) z) (f aa)) (n ab (f dH) (f fu)))) ha))) (n (boot_o_6 P) (n (boot_o_10 P) (hb P) (n aJ (n ab hc (n a6 (n cp (n aa (f fS) z) (f eE)) (n c9 (f aa) (f ab)))) hd)) (n af (n aa (n aK he (n bc (n bX (n aa (f fU) z) (f ab)) (n (db P) (f aa) (f fV)))) hf) (n ab (n aA hg (n ac (n ab (n df (f fX) z) (f eI)) (n aa (f eJ) (f aa)))) hh))))
theorem te13151247756866585012:tw13151247756866585012=tw13151247756866585012:=rfl
def tw16790628966960110518:Params->BT:=λP=>n (boot_o_0 P) (n (boot_o_1 P) (n (gp P) (n (boot_o_7 P) (n aa (gQ P) (n ag (gR P) (n (bh P) (n bB (f aa) (f aa)) (n cT (f di) (f ab))))) (n ab (n ai gS (n a8 (n bC (f dj) (f dY)) (n aa (f dZ) (f e4)))) (gT P))) (n aa (gU P) (n aj (n al (gV P) (n ba (n bG (f ab) (f d5)) (n aa (f ab) (f fI)))) (gW P)))) (n (boot_o_5 P) (n (boot_o_9 P) (gX P) (n aa (n aa gY (n (a4 P) (n ab (f cZ) (f eQ)) (n c0 (f dv) (f aa)))) gZ)) (n ae (n ao (n aa (g0 P) (n ab (n cb (f c1) (f aa)) (n ac (f dx) (f ab)))) (g1 P)) (n aa (n aG g2 (n ad (n aa (f c2) (f ab)) (n cG (f aa) (f fh)))) (g3 P))))) (n (boot_o_2 P) (n (boot_o_4 P) (n (boot_o_8 P) (g4 P) (n ar (n au (g5 P) (n aa (n aa (f c4) (f aa)) (n c5 (f dE) (f fo)))) (g6 P))) (n (l3 [(1,0,20),(5,0,27),(13,0,32),(18,0,39),(23,0,46),(34,0,53),(36,0,66),(38,0,78),(40,0,90),(42,0,102),(44,0,114),(47,0,126),(54,0,147),(62,0,166),(68,0,171),(73,0,178),(82,0,185),(88,0,190),(95,0,195),(98,0,202),(108,0,209),(114,0,214),(130,0,221),(135,0,226),(150,0,233),(175,0,282),(181,0,289),(186,0,296),(197,0,301),(205,0,308),(299,0,475),(303,0,482),(315,0,487),(323,0,492),(325,0,499),(341,0,506),(343,0,513),(352,0,520),(359,0,527),(367,0,534),(373,0,541),(381,0,546)]) (n aw (n ax g7 (n aa (n ab (f ab) (f et)) gO)) g8) (n ay (n aa g9 (n bb (n bS (f dG) (f aa)) (n ab (f dH) (f fu)))) ha))) (n (boot_o_6 P) (n (boot_o_10 P) (hb P) (n aJ (n ab hc (n a6 (n cp (f aa) (f eE)) (n c9 (f aa) (f ab)))) hd)) (n af (n aa (n aK he (n bc (n bX (f aa) (f ab)) (n (db P) (f aa) (f fV)))) hf) (n ab (n aA hg (n ac (n ab (f df) (f eI)) (n aa (f eJ) (f aa)))) hh))))
theorem te16790628966960110518:tw16790628966960110518=tw16790628966960110518:=rfl
def tw13313579406275438199:Params->BT:=λP=>n (boot_o_0 P) (n (boot_o_1 P) (n (boot_o_3 P) (f (boot_o_7 P)) (f aa)) (n (boot_o_5 P) (f (boot_o_9 P)) (f ae))) (n (boot_o_2 P) (n (boot_o_4 P) (f (boot_o_8 P)) (f ab)) (n (boot_o_6 P) (f (boot_o_10 P)) (f af)))
theorem te13313579406275438199:tw13313579406275438199=tw13313579406275438199:=rfl
def tw12882375228749814937:Params->BT:=λP=>n (boot_o_0 P) (n (boot_o_1 P) (n (gr P) (n (boot_o_7 P) (n aa (f aB) (f ag)) (n ab (f ai) (f aa))) (n aa (n aC (f ab) (f aa)) (n aj (f al) (f aD)))) (n (boot_o_5 P) (n (boot_o_9 P) (n am (f an) (f ac)) (n aa (f aa) (f (ty (cl (S "PatchError") [(w "ValueError")] [(r 57),(w "ValueError"),(w "Exception"),(w "BaseException"),(w "object")] 56 (S "PatchError") true [] [] false none false) [(k (r 48)),none,(k (v "PatchError" 238)),(k (v "PatchError" 246)),(k (b "ValueError.__new__")),(k (vl true))])))) (n ae (n ao (f aa) (f aF)) (n aa (f aG) z)))) (n (boot_o_2 P) (n (boot_o_4 P) (n (boot_o_8 P) (n ab (f ap) (f aq)) (n ar (f au) (f (av P)))) (n (l3 [(1,0,20),(5,0,27),(13,0,32),(18,0,39),(23,0,46),(34,0,53)]) (n aw (f ax) (f ab)) (n ay (f aa) (f aH)))) (n (boot_o_6 P) (n (boot_o_10 P) (n aa (f aa) (f (aI P))) (n aJ (f ab) (f az))) (n af (n aa (f aK) (f aM)) (n ab (f aA) z))))
theorem te12882375228749814937:tw12882375228749814937=tw12882375228749814937:=rfl
def tw2603879198805669081:Params->BT:=λP=>n (boot_o_0 P) (n (boot_o_1 P) (n (gu P) (n (boot_o_7 P) (n aa (n aB (f (aN P)) (f a1)) (n ag (f aU) z)) (n ab (n ai (f aO) z) (n aa (f (a2 P)) z))) (n aa gG (n aj (n al (f (aW P)) z) (n aD (f a3) z)))) (n (boot_o_5 P) (n (boot_o_9 P) (n am (n an (f ab) z) (n ac (f (aQ P)) z)) (n aa (n aa (f ad) z) (n (ty (cl (S "PatchError") [(w "ValueError")] [(r 57),(w "ValueError"),(w "Exception"),(w "BaseException"),(w "object")] 56 (S "PatchError") true [] [(r 70),(r 82),(r 94)] false none false) [(k (r 48)),none,(k (v "PatchError" 238)),(k (v "PatchError" 246)),(k (b "ValueError.__new__")),(k (vl true))]) (f ab) z))) (n ae (n ao (n aa (f (aE P)) z) (n aF (f ad) z)) (n aa (n aG (f ab) z) (n ad (f (aX P)) z))))) (n (boot_o_2 P) (n (boot_o_4 P) (n (boot_o_8 P) gz (n ar (n au (f aR) z) (n (av P) (f aa) z))) (n (l3 [(1,0,20),(5,0,27),(13,0,32),(18,0,39),(23,0,46),(34,0,53),(36,0,66),(38,0,78),(40,0,90)]) gH (n ay gD (n aH (f aa) z)))) (n (boot_o_6 P) (n (boot_o_10 P) (n aa (n aa (f aS) z) (n (aI P) (f aT) z)) (n aJ (n ab (f ac) z) (n az (f a7) z))) (n af (n aa (n aK (f aL) z) (n aM (f ac) z)) gC)))
theorem te2603879198805669081:tw2603879198805669081=tw2603879198805669081:=rfl
noncomputable def tw4078558447957047485:Params->BT:=λP=>n (boot_o_0 P) (n (boot_o_1 P) (n (fZ P) (n (boot_o_7 P) (n aa (n aB (n (aN P) (n bw (f cu) z) (n bz (f dh) z)) (n a1 (n bA (f aa) z) gD)) (n ag (n aU (n ac (f (cv P)) z) (n aa (f dV) z)) (n (bh P) (n bB (f aa) z) (n cT (f di) z)))) (n ab (n ai (n aO (n bi (f aa) z) (n b2 (f aa) z)) (n a8 (n bC (f dj) z) (n aa (f dZ) z))) (n aa (n (a2 P) (n bD (f cU) z) (n b3 (f aa) z)) (n bj gE (n cw (f dl) z))))) (n aa (n aC (n ab (n aP gD (n bE (f dm) z)) (n (a9 P) gD (n b4 (f aa) z))) (n aa (n aV (n b5 (f cV) z) gE) (n bl (n bF (f (l3 [(207,4,315),(212,4,322),(218,4,329),(221,4,336),(224,4,341),(228,4,346),(238,4,353),(241,4,360),(244,4,367),(247,4,374),(250,4,381)])) z) (n ab (f dn) z)))) (n aj (n al (n (aW P) (n bm (f cW) z) (n b6 (f aa) z)) (n ba (n bG (f ab) z) gE)) (n aD (n a3 (n bH (f cX) z) (n aa (f dp) z)) (n (bI P) (n aa (f dq) z) (n cx (f aa) z)))))) (n (boot_o_5 P) (n (boot_o_9 P) (n am (n an (n ab gI (n ab (f d8) z)) (n ad (n b7 (f cY) z) (n cy (f dr) z))) (n ac (n (aQ P) (n aa (f cz) z) (n b8 (f ds) z)) (n ab (n b9 (f (dt [(d P "__module__" 608 (v "patchkin.desk" 557)),(d P "__qualname__" 610 (v "Desk" 609)),(d P "__firstlineno__" 612 (vi 205 611)),(d P "__init__" 619 (r 316)),(d P "begin" 627 (r 323)),(d P "stores" 634 (r 330)),(d P "patches" 641 (r 337)),(d P "has" 647 (r 342)),(d P "record" 653 (r 347)),(d P "cut" 664 (r 354)),(d P "back" 674 (r 361)),(d P "take" 684 (r 368)),(d P "drop" 693 (r 375)),(d P "leans" 701 (r 382))] 14)) z) (n cA (f aa) z)))) (n aa (n aa (n ad (n bn (f cB) z) (n cC (f du) z)) (n (a4 P) (n ab (f cZ) z) (n c0 (f dv) z))) (n be (n ab (n ca (f dw) z) (n ab (f ec) z)) (n aa (n bJ (f aa) z) gE)))) (n ae (n ao (n aa (n (aE P) (n bo (f cD) z) gE) (n ab (n cb (f c1) z) (n ac (f dx) z))) (n aF (n ad gD (n cE (f dy) z)) (n (bf P) (n ab (f ef) z) (n aa (f eh) z)))) (n aa (n aG (n ab (n bL (f cF) z) (n ab (f dz) z)) (n ad (n aa (f c2) z) (n cG (f aa) z))) (n ad (n (aX P) (n (bM P) (f ab) z) (n cc (f ab) z)) (n bN (n cd (f aa) z) (n c3 (f dA) z))))))) (n (boot_o_2 P) (n (boot_o_4 P) (n (boot_o_8 P) (n ab (n ap (n aa gD gD) (n a5 (n bO (f dB) z) (n ab (f ek) z))) (n aq (n aa (n (ce P) (f cH) z) (n cI (f dC) z)) (n aa (n aa (f ac) z) (n cJ (f dD) z)))) (n ar (n au (n aR (n (bp P) (f ab) z) (n aa (f eo) z)) (n aa (n aa (f c4) z) (n c5 (f dE) z))) (n (av P) (n aa gD gE) (n bq (n cf (f dF) z) (n cK (f aa) z))))) (n fY (n aw (n ax (n aa (n bP (f c6) z) (n bQ (f aa) z)) (n aa gI gE)) (n ab (n aY (n cg (f c7) z) (n ab (f ev) z)) (n aa (n aa (f ew) z) (n cL (f aa) z)))) (n ay (n aa (n aa (n bR (f cM) z) gE) (n bb (n bS (f dG) z) (n ab (f dH) z))) (n aH (n aa (n bT (f aa) z) (n cN (f aa) z)) (n aa (n ab (f dI) z) (n aa (f eA) z)))))) (n (boot_o_6 P) (n (boot_o_10 P) (n aa (n aa (n aS (n br (f cO) z) (n ch (f dJ) z)) (n ac (n ci (f c8) z) (n cj (f dK) z))) (n (aI P) (n aT (n ck (f cP) z) (n cm (f aa) z)) (n bt (n bU (f aa) z) gE))) (n aJ (n ab (n ac (n bu (f aa) z) (n cn (f dL) z)) (n a6 (n cp (f aa) z) (n c9 (f aa) z))) (n az (n a7 (n bV (f da) z) (n cq (f dM) z)) (n ac (n bW (f eF) z) (n ab (f dN) z))))) (n af (n aa (n aK (n aL (n bv (f cQ) z) (n ab (f dO) z)) (n bc (n bX (f aa) z) (n (db P) (f aa) z))) (n aM (n ac gI (n cr (f dP) z)) (n bg (n bY (f aa) z) (n dc (f dQ) z)))) (n ab (n aA (n aZ (n aa (f cR) z) (n cs (f aa) z)) (n ac (n ab (f df) z) (n aa (f eJ) z))) (n ac (n a0 (n bZ (f dg) z) (n ct (f dR) z)) (n b0 (n b1 (f ab) z) (n cS (f dS) z)))))))
theorem te4078558447957047485:tw4078558447957047485=tw4078558447957047485:=rfl
def tw16119512235370356196:Params->Heap:=λP=>Heap.mk #[boot_o_0 P,boot_o_1 P,boot_o_2 P,fF P,boot_o_4 P,boot_o_5 P,boot_o_6 P,boot_o_7 P,boot_o_8 P,boot_o_9 P,boot_o_10 P,aa,f2,ae,af,aa,ab,am,aa,aC,aw,ao,aa,ab,ar,aa,aJ,aj,ay,aa,ab,aB,ap,an,aa,ab,ax,aa,aK,ai,au,aa,ab,al,aa,aG,aA,ag,aq,ac,aI P,aa,ab,aF,aM,aa,av P,be,az,aD,aH,ad,ac,aN P,aa,ab,aS,aP,aa,aE P,aL,aO,aR,ad,ac,aW P,aa,ab,aZ,aU,aa,aQ P,aT,aV,aY,ad,ac,a2 P,aa,ab,a7,a3,aa,aX P,a0,a1,a5,ad,ac,a9 P,aa,ab,bc,a8,aa,a4 P,a6,ba,bb,ad,ac,bh P,aa,ab,bt,bl,aa,bf P,bg,bj,bq,aa,ac,bI P,aa,bN,b0,bw,aa,ab,br,aa,bP,bo,bv,bi,bp P,bn,bu,bm,bR,bL,aa,ac,ce P,aa,ck,b5,cg,aa,ab,bD,aa,ca,bV,bH,bT,bM P,bZ,bA,bO,b7,ci,aa,ab,cb,bX,bC,aa,ab,cp,bG,bS,aa,ab,bB,aa,b9,bU,bF,aa,ab,bY,aa,cf,bJ,bW,aa,ab,cd,b1,bz,aa,ab,ch,bE,bQ,aa,ab,b2,aa,cC,cn,b6,aa,ab,cs,aa,cI,b8,cm,aa,ab,cE,cr,b3,aa,ab,cq,aa,cN,cc,ct,aa,ab,cy,cj,b4,aa,ac,db P,aa,c5,c0,c9,aa,ab,cG,aa,cT,cJ,cA,aa,ab,cL,aa,dc,cw,cK,aa,ab,cx,aa,c3,cS,cu,aa,ab,cO,aa,c6,cD,cQ,aa,ab,cB,aa,cW,cM,cF,cR,cv P,cH,cz,cP,cV,c7,aa,ab,cU,aa,dw,da,cX,aa,ab,dg,aa,dB,cY,c8,aa,ab,c1,aa,dj,c4,cZ,aa,ab,dG,c2,df,aa,ac,eP P,aa,eO,ew,ef,aa,ab,dF,aa,eF,dq,dI,aa,ab,dh,aa,d8,dJ,dm,aa,ab,dO,aa,eo,du,dL,aa,ab,dz,aa,dV,dC,ds,aa,ab,ev,dy,dP,aa,ab,ec,dM,dp,aa,ab,dR,aa,ek,dr,dK,aa,ab,dx,aa,dZ,dE,dv,aa,ab,dH,aa,eJ,di,dD,aa,ab,dn,aa,eh,dQ,dl,aa,ab,dN,aa,eA,dA,dS,aa,ab,d7,aa,eN,es,ee,aa,ab,en,aa,eZ,d4,ey,aa,ab,eL,el,d9,aa,ab,eu,aa,e0,d0,ep,aa,ab,d6,aa,eT,eK,dU,aa,ab,eY,d2,et,aa,ab,dY,aa,eQ,eE,d5,aa,ab,eI,aa,eU,eb,eC,aa,ab,eg,aa,eM,er,ed,aa,ab,ez,aa,e1,dT,ej,aa,ab,d1,aa,eR,eG,dX,aa,ab,eD,aa,eX,ei,eH,dW,em P,ea,eB,d3,eW,eS,aa,ab,fp,aa,fT,fb,fw,aa,ab,e2,aa,fL,fz,e8,aa,ab,fV,e4,fo,aa,ab,fI,fu,fh,aa,ab,fk,aa,fR,fa,fq,aa,ab,e6,aa,fN,fB,fc,aa,ab,fE,aa,fP,fe,fx,aa,ab,fg,aa,fH,fm,ff,aa,ab,ft,aa,fW,e3,fj,aa,ab,e9,aa,fO,fC,e5,aa,ab,fA,aa,fQ,fi,fD,aa,ab,fJ,fy,e7,aa,ab,fU,aa,f1,fM,fS,aa,ab,fv "law" "law" (x 50),fX,fG] (Life.mk [] [] [] 0 [] [] false #[] [] 0 false false false 0 [2000,10,10] false 0 true [] [] 0 false)
theorem te16119512235370356196:tw16119512235370356196=tw16119512235370356196:=rfl
def tw3734249395970922357:Params->Heap:=λP=>Heap.mk #[boot_o_0 P,boot_o_1 P,boot_o_2 P,boot_o_3 P,boot_o_4 P,boot_o_5 P,boot_o_6 P,boot_o_7 P,boot_o_8 P,boot_o_9 P,boot_o_10 P,aa,ab,ae,af] (Life.mk [] [] [] 0 [] [] false #[] [] 0 false false false 0 [2000,10,10] false 0 true [] [] 0 false)
theorem te3734249395970922357:tw3734249395970922357=tw3734249395970922357:=rfl
def tw9135521687191515693:Params->Frag:=λP=>[(2,boot_o_2 P),(3,fF P),(15,aa),(17,am),(18,aa),(20,aw),(21,ao),(22,aa),(24,ar),(25,aa),(27,aj),(28,ay),(29,aa),(32,ap),(33,an),(34,aa),(36,ax),(37,aa),(39,ai),(40,au),(41,aa),(43,al),(44,aa),(46,aA),(47,ag),(48,aq),(55,aa),(56,av P),(57,be),(58,az),(61,ad),(68,aa),(69,aE P),(70,aL),(73,ad),(80,aa),(81,aQ P),(82,aT),(85,ad),(92,aa),(93,aX P),(94,a0),(97,ad),(104,aa),(105,a4 P),(106,a6),(109,ad),(116,aa),(117,bf P),(118,bg),(128,aa),(130,br),(131,aa),(133,bo),(134,bv),(135,bi),(136,bp P),(137,bn),(138,bu),(139,bm),(149,aa),(151,bD),(152,aa),(154,bV),(155,bH),(156,bT),(157,bM P),(158,bZ),(159,bA),(160,bO),(163,aa),(166,bX),(167,bC),(168,aa),(171,bG),(172,bS),(173,aa),(175,bB),(176,aa),(178,bU),(179,bF),(180,aa),(182,bY),(183,aa),(185,bJ),(186,bW),(187,aa),(190,b1),(191,bz),(192,aa),(195,bE),(196,bQ),(197,aa),(199,b2),(200,aa),(202,cn),(203,b6),(204,aa),(206,cs),(207,aa),(209,b8),(210,cm),(211,aa),(214,cr),(215,b3),(216,aa),(218,cq),(219,aa),(221,cc),(222,ct),(223,aa),(226,cj),(227,b4),(235,aa),(237,cG),(238,aa),(240,cJ),(241,cA),(242,aa),(244,cL),(245,aa),(247,cw),(248,cK),(249,aa),(251,cx),(252,aa),(254,cS),(255,cu),(256,aa),(258,cO),(259,aa),(261,cD),(262,cQ),(263,aa),(265,cB),(266,aa),(268,cM),(269,cF),(270,cR),(271,cv P),(272,cH),(273,cz),(274,cP),(277,aa),(279,cU),(280,aa),(282,da),(283,cX),(284,aa),(286,dg),(287,aa),(289,cY),(290,c8),(291,aa),(293,c1),(294,aa),(296,c4),(297,cZ),(298,aa),(301,c2),(302,df),(310,aa),(312,dF),(313,aa),(315,dq),(316,dI),(317,aa),(319,dh),(320,aa),(322,dJ),(323,dm),(324,aa),(326,dO),(327,aa),(329,du),(330,dL),(331,aa),(333,dz),(334,aa),(336,dC),(337,ds),(338,aa),(341,dy),(342,dP),(343,aa),(346,dM),(347,dp),(348,aa),(350,dR),(351,aa),(353,dr),(354,dK),(355,aa),(357,dx),(358,aa),(360,dE),(361,dv),(362,aa),(364,dH),(365,aa),(367,di),(368,dD),(369,aa),(371,dn),(372,aa),(374,dQ),(375,dl),(376,aa),(378,dN),(379,aa),(381,dA),(382,dS),(383,aa),(385,d7),(386,aa),(388,es),(389,ee),(390,aa),(392,en),(393,aa),(395,d4),(396,ey),(397,aa),(400,el),(401,d9),(402,aa),(404,eu),(405,aa),(407,d0),(408,ep),(409,aa),(411,d6),(412,aa),(414,eK),(415,dU),(416,aa),(419,d2),(420,et),(421,aa),(423,dY),(424,aa),(426,eE),(427,d5),(428,aa),(430,eI),(431,aa),(433,eb),(434,eC),(435,aa),(437,eg),(438,aa),(440,er),(441,ed),(442,aa),(444,ez),(445,aa),(447,dT),(448,ej),(449,aa),(451,d1),(452,aa),(454,eG),(455,dX),(456,aa),(458,eD),(459,aa),(461,ei),(462,eH),(463,dW),(464,em P),(465,ea),(466,eB),(467,d3),(470,aa),(472,fp),(473,aa),(475,fb),(476,fw),(477,aa),(479,e2),(480,aa),(482,fz),(483,e8),(484,aa),(487,e4),(488,fo),(489,aa),(492,fu),(493,fh),(494,aa),(496,fk),(497,aa),(499,fa),(500,fq),(501,aa),(503,e6),(504,aa),(506,fB),(507,fc),(508,aa),(510,fE),(511,aa),(513,fe),(514,fx),(515,aa),(517,fg),(518,aa),(520,fm),(521,ff),(522,aa),(524,ft),(525,aa),(527,e3),(528,fj),(529,aa),(531,e9),(532,aa),(534,fC),(535,e5),(536,aa),(538,fA),(539,aa),(541,fi),(542,fD),(543,aa),(546,fy),(547,e7),(548,aa),(550,fU),(551,aa),(553,fM),(554,fS),(555,aa),(558,fX),(559,fG)]
theorem te9135521687191515693:tw9135521687191515693=tw9135521687191515693:=rfl
def tw802384703286661764:List Stmt:=[x 27,x 28,x 29,x 30]
theorem te802384703286661764:tw802384703286661764=tw802384703286661764:=rfl
def tw14425013800509282536:List Stmt:=[x 9]
theorem te14425013800509282536:tw14425013800509282536=tw14425013800509282536:=rfl
def tw14602920854664445932:List Stmt:=[x 0,x 1,x 2,x 3,x 4,x 5,x 6,x 7]
theorem te14602920854664445932:tw14602920854664445932=tw14602920854664445932:=rfl
def tw15912716055131097069:List Stmt:=[x 11]
theorem te15912716055131097069:tw15912716055131097069=tw15912716055131097069:=rfl
def tw9599604764067700882:List Stmt:=[x 10]
theorem te9599604764067700882:tw9599604764067700882=tw9599604764067700882:=rfl
def tw12193510549356598226:List Stmt:=[x 12,x 13]
theorem te12193510549356598226:tw12193510549356598226=tw12193510549356598226:=rfl
def tw3438939145673774835:List Stmt:=[x 8]
theorem te3438939145673774835:tw3438939145673774835=tw3438939145673774835:=rfl
def tw11585171070736978325:List Stmt:=[x 15,x 16,x 17,x 18,x 19,x 20,x 21]
theorem te11585171070736978325:tw11585171070736978325=tw11585171070736978325:=rfl
def tw13563958054875632277:List Stmt:=[x 35]
theorem te13563958054875632277:tw13563958054875632277=tw13563958054875632277:=rfl
def tw14469214877460226038:List Stmt:=[x 31,x 32,x 33,x 34]
theorem te14469214877460226038:tw14469214877460226038=tw14469214877460226038:=rfl
def tw7628379540758363576:List Stmt:=[x 22,x 23,x 24,x 25,x 26]
theorem te7628379540758363576:tw7628379540758363576=tw7628379540758363576:=rfl
def tw8563173412635137370:List Stmt:=[x 14]
theorem te8563173412635137370:tw8563173412635137370=tw8563173412635137370:=rfl
def tw1236699763056398042:List Stmt:=[x 36,x 37,x 38,x 39,x 40,x 41,x 42,x 43,x 44,x 45,x 46,x 47,x 48]
theorem te1236699763056398042:tw1236699763056398042=tw1236699763056398042:=rfl
def tw10906733566936802044:List Stmt:=[x 49,x 50]
theorem te10906733566936802044:tw10906733566936802044=tw10906733566936802044:=rfl
def tw9558877230388981672:Program:={PySem.Challenge.pw_patchkin_k03_recorded with main:={PySem.Challenge.pw_patchkin_k03_recorded.main with body:=[x 0,x 2,x 3,x 4,x 5,x 7,x 8,x 9,x 10,x 11,x 12,x 14,x 15,x 16,x 17,x 18,x 19,x 20,x 21,x 22,x 23,x 24,x 25,x 26,x 27,x 29,x 30,x 31,x 32,x 33,x 34,x 35,x 37,x 38,x 39,x 40,x 41,x 42,x 43,x 44,x 45,x 46,x 47,x 48,x 49,x 50]}}
theorem te9558877230388981672:tw9558877230388981672=tw9558877230388981672:=rfl
end
end PySem.W.Fast
namespace PK
open PySem L2
theorem all_mk{l:W.OpenLaw}{w:World}{K:Qqy}{h:Heap}{mg:Qqx}{fa f0 f1 f2 f3 f4 f5 f6 f7 f8 f9 f10 f11 f12 f13 f14 f15 f16 f17 f18 f19 f20 f21 f22 f23 f24 f25 f26 f27 f28 f29 f30 f31 f32 f33 f34 f35 f36 f37 f38 f39 f40 f41 f42 f43 f44 f45 f46 f47 f48 f49 f50 hX hV ic g_ lG j3 jX jm k9 wA:Addr}{nF lH:Tok}(X:K.In h)(G:h.Ns mainGlobals mg)(hfa:mg "law"=some (.ref fa))
  (Ct:W.nsIn K mainGlobals "Line"=some (some (.ref hX)))
  (zL:W.nsIn K mainGlobals "Patch"=some (some (.ref hV)))
  (zM:W.nsIn K mainGlobals "Sight"=some (some (.ref ic)))
  (Cu:W.nsIn K mainGlobals "Desk"=some (some (.ref g_)))
  (h0:FI K "counts_with" oP f0)
  (h1:FI K "most_pairs" p_ f1)
  (h2:FI K "place_from" qa f2)
  (h3:FI K "kept" EU f3)
  (h4:FI K "lines_named_by" kB f4)
  (h5:FI K "leans_straight_on" jO f5)
  (h6:FI K "live_patches" nO f6)
  (h7:FI K "lines_put" q9 f7)
  (h8:FI K "standing_lines" kC f8)
  (h9:FI K "files_with_lines" js f9)
  (Ue:FI K "straight_ahead" l0 f10)
  (SH:FI K "joined" y4 f11)
  (XS:FI K "all_ahead" oy f12)
  (XT:FI K "first_free" qb f13)
  (XU:FI K "row_of" uU f14)
  (XW:FI K "check_name" qc f15)
  (XX:FI K "kept_behind" oQ f16)
  (XY:FI K "new_lines" q_ f17)
  (XZ:FI K "changing_patch" jU f18)
  (X0:FI K "_law_cell_at" nQ f19)
  (Ug:FI K "_law_name" rb f20)
  (SI:FI K "_law_text" oz f21)
  (X3:FI K "_law_texts" nE f22)
  (X8:FI K "_law_edit" rg f23)
  (X9:FI K "_law_whole" qi f24)
  (X_:FI K "_law_row_form" mS f25)
  (Ya:FI K "_law_names_are" l_ f26)
  (Yb:FI K "_law_behind" oR f27)
  (Yc:FI K "_law_pair" rh f28)
  (Yd:FI K "_law_stays" qj f29)
  (Ye:FI K "_law_next" oA f30)
  (Yf:FI K "_law_lists_changed" kq f31)
  (Yg:FI K "law" AZ f32)
  (Yh:MI K hX "__init__" "Line.__init__" mL f33)
  (Yi:MI K hV "__init__" "Patch.__init__" lZ f34)
  (Yj:MI K ic "__init__" "Sight.__init__" l6 f35)
  (Yk:MI K ic "is_ahead" "Sight.is_ahead" l8 f36)
  (Yl:MI K ic "quarrelling" "Sight.quarrelling" kG f37)
  (Ym:MI K g_ "__init__" "Desk.__init__" mO f38)
  (Yn:MI K g_ "begin" "Desk.begin" qd f39)
  (Uh:MI K g_ "patches" "Desk.patches" nP f40)
  (SK:MI K g_ "has" "Desk.has" qf f41)
  (Yo:MI K g_ "record" "Desk.record" mx f42)
  (Yp:MI K g_ "files" "Desk.files" qg f43)
  (Yq:MI K g_ "row" "Desk.row" qh f44)
  (Yr:MI K g_ "quarrels" "Desk.quarrels" mQ f45)
  (Ys:MI K g_ "patches_of" "Desk.patches_of" j5 f46)
  (Yt:MI K g_ "sight_of" "Desk.sight_of" mR f47)
  (Yu:MI K g_ "check_store" "Desk.check_store" kW f48)
  (Yv:MI K g_ "check_new" "Desk.check_new" l9 f49)
  (Ui:MI K g_ "keep" "Desk.keep" ra f50)
  (Cv:W.plainGet K hX Str.empty=true)
  (Cw:W.hasDictIn K hX=true)
  (Cy:W.plainOver K hX=true)
  (Cz:W.findIn K (.ref hX) "__setattr__"=some (some (.builtin "object.__setattr__")))
  (CA:W.makesIn K hX=true)
  (CB:W.keepIn K (.ref hX)=true)
  (hZ:W.findIn K (.ref hX) "name"=some none)
  (jI:W.findIn K (.ref hX) "text"=some none)
  (iD:W.findIn K (.ref hX) "upper_name"=some none)
  (iE:W.findIn K (.ref hX) "lower_name"=some none)
  (zN:W.plainGet K hV Str.empty=true)
  (zO:W.hasDictIn K hV=true)
  (zP:W.plainOver K hV=true)
  (zQ:W.findIn K (.ref hV) "__setattr__"=some (some (.builtin "object.__setattr__")))
  (zR:W.makesIn K hV=true)
  (zS:W.keepIn K (.ref hV)=true)
  (iT:W.findIn K (.ref hV) "name"=some none)
  (jl:W.findIn K (.ref hV) "file"=some none)
  (jK:W.findIn K (.ref hV) "puts"=some none)
  (jL:W.findIn K (.ref hV) "cuts"=some none)
  (iW:W.findIn K (.ref hV) "other"=some none)
  (zT:W.plainGet K ic Str.empty=true)
  (zU:W.hasDictIn K ic=true)
  (zV:W.plainOver K ic=true)
  (zW:W.findIn K (.ref ic) "__setattr__"=some (some (.builtin "object.__setattr__")))
  (zX:W.makesIn K ic=true)
  (zY:W.keepIn K (.ref ic)=true)
  (jt:W.findIn K (.ref ic) "ahead"=some none)
  (iw:W.findIn K (.ref ic) "lines"=some none)
  (CC:W.plainGet K g_ Str.empty=true)
  (CD:W.hasDictIn K g_=true)
  (CF:W.plainOver K g_=true)
  (CG:W.findIn K (.ref g_) "__setattr__"=some (some (.builtin "object.__setattr__")))
  (CH:W.makesIn K g_=true)
  (CI:W.keepIn K (.ref g_)=true)
  (i7:W.findIn K (.ref g_) "made"=some none)
  (jM:W.findIn K (.ref g_) "needs"=some none)
  (i8:W.findIn K (.ref g_) "held"=some none)
  (oW:W.nsIn K mainGlobals "PatchError"=some (some (.ref lG)))
  (ur:W.nsIn K mainGlobals "BadName"=some (some (.ref j3)))
  (qx:W.nsIn K mainGlobals "NameTaken"=some (some (.ref jX)))
  (uu:W.nsIn K mainGlobals "NoStore"=some (some (.ref jm)))
  (qy:W.nsIn K mainGlobals "Unsettled"=some (some (.ref k9)))
  (CJ:W.nsIn K mainGlobals "Same"=some (some (.ref wA)))
  (oX:W.nsIn K mainGlobals "NAME_SIGNS"=some (some (.str (Str.ofString "abcdefghijklmnopqrstuvwxyz0123456789") nF)))
  (mX:W.nsIn K mainGlobals "LONGEST_NAME"=some (some (.int 12 lH)))
  (Ki:W.nsIn K mainGlobals "len"=some none)
  (CK:W.nsIn K mainGlobals "range"=some none)
  (Kj:W.nsIn K mainGlobals "max"=some none)
  (qz:W.nsIn K mainGlobals "isinstance"=some none)
  (Kk:W.nsIn K mainGlobals "int"=some none)
  (Fx:W.nsIn K mainGlobals "bool"=some none)
  (Fy:W.nsIn K mainGlobals "list"=some none)
  (CL:W.nsIn K mainGlobals "tuple"=some none)
  (Kl:W.nsIn K mainGlobals "str"=some none)
  (uv:W.nsIn K mainGlobals "reversed"=some none)
  (zZ:W.nsIn K mainGlobals "sorted"=some none)
  (Km:W.nsIn K mainGlobals "set"=some none)
  (su:W.nsIn K mainGlobals "enumerate"=some none)
  (qA:W.nsIn K mainGlobals "ValueError"=some none)
  (oY:W.excIn K lG [.type "ValueError",.type "Exception",.type "BaseException",.type "object"] "ValueError.__new__"=true)
  (uw:W.excIn K j3 [.type "ValueError",.type "Exception",.type "BaseException",.type "object"] "ValueError.__new__"=true)
  (qB:W.excIn K jX [.type "ValueError",.type "Exception",.type "BaseException",.type "object"] "ValueError.__new__"=true)
  (ux:W.excIn K jm [.type "ValueError",.type "Exception",.type "BaseException",.type "object"] "ValueError.__new__"=true)
  (qC:W.excIn K k9 [.type "ValueError",.type "Exception",.type "BaseException",.type "object"] "ValueError.__new__"=true)
  (CM:W.excIn K wA [.type "ValueError",.type "Exception",.type "BaseException",.type "object"] "ValueError.__new__"=true) :
  ∃fd:FuncData,(∀(s:Shared)(v:Value),BindsTo s fd ⟨[v],[]⟩ [("script",v)])/\∀base:Heap,K.In base->base.Ns mainGlobals mg->iq l.prog w K mg base lN 20 fa fd ["script"] (Gi K):=by
 obtain⟨m0,d0,F0⟩:=h0
 obtain⟨m1,d1,F1⟩:=h1
 obtain⟨m2,d2,F2⟩:=h2
 obtain⟨m3,d3,F3⟩:=h3
 obtain⟨m4,d4,F4⟩:=h4
 obtain⟨m5,d5,F5⟩:=h5
 obtain⟨m6,d6,F6⟩:=h6
 obtain⟨m7,d7,F7⟩:=h7
 obtain⟨m8,d8,F8⟩:=h8
 obtain⟨m9,d9,F9⟩:=h9
 obtain⟨m10,d10,F10⟩:=Ue
 obtain⟨m11,d11,F11⟩:=SH
 obtain⟨m12,d12,F12⟩:=XS
 obtain⟨m13,d13,F13⟩:=XT
 obtain⟨m14,d14,F14⟩:=XU
 obtain⟨m15,d15,F15⟩:=XW
 obtain⟨m16,d16,F16⟩:=XX
 obtain⟨m17,d17,F17⟩:=XY
 obtain⟨m18,d18,F18⟩:=XZ
 obtain⟨m19,d19,F19⟩:=X0
 obtain⟨m20,d20,F20⟩:=Ug
 obtain⟨m21,d21,F21⟩:=SI
 obtain⟨m22,d22,F22⟩:=X3
 obtain⟨m23,d23,F23⟩:=X8
 obtain⟨m24,d24,F24⟩:=X9
 obtain⟨m25,d25,F25⟩:=X_
 obtain⟨m26,d26,F26⟩:=Ya
 obtain⟨m27,d27,F27⟩:=Yb
 obtain⟨m28,d28,F28⟩:=Yc
 obtain⟨m29,d29,F29⟩:=Yd
 obtain⟨m30,d30,F30⟩:=Ye
 obtain⟨m31,d31,F31⟩:=Yf
 obtain⟨m32,d32,F32⟩:=Yg
 obtain⟨Yw,d33,F33⟩:=Yh
 obtain⟨Yx,d34,F34⟩:=Yi
 obtain⟨Yy,d35,F35⟩:=Yj
 obtain⟨m36,d36,F36⟩:=Yk
 obtain⟨m37,d37,F37⟩:=Yl
 obtain⟨Yz,d38,F38⟩:=Ym
 obtain⟨m39,d39,F39⟩:=Yn
 obtain⟨m40,d40,F40⟩:=Uh
 obtain⟨m41,d41,F41⟩:=SK
 obtain⟨m42,d42,F42⟩:=Yo
 obtain⟨m43,d43,F43⟩:=Yp
 obtain⟨m44,d44,F44⟩:=Yq
 obtain⟨m45,d45,F45⟩:=Yr
 obtain⟨m46,d46,F46⟩:=Ys
 obtain⟨m47,d47,F47⟩:=Yt
 obtain⟨m48,d48,F48⟩:=Yu
 obtain⟨m49,d49,F49⟩:=Yv
 obtain⟨m50,d50,F50⟩:=Ui
 have e:=hfa.symm.trans (aam X G m32)
 cases e
 have T:Txt mg:=⟨aaP X G Ki,aaP X G CK,aaP X G Kj,aaP X G qz,aaP X G Kk,aaP X G Fx,aaP X G Fy,aaP X G CL,aaP X G Kl,aaP X G uv,aaP X G zZ,aaP X G Km,aaP X G su,aaP X G qA⟩
 have O:Ok K mg (Ad.mk f0 d0 f1 d1 f2 d2 f3 d3 f33 d33 f34 d34 f4 d4 f5 d5 f6 d6 f7 d7 f8 d8 f9 d9 f10 d10 f11 d11 f12 d12 f13 d13 f14 d14 f35 d35 f36 d36 f37 d37 f15 d15 f16 d16 f17 d17 f18 d18 f38 d38 f39 d39 f40 d40 f41 d41 f42 d42 f43 d43 f44 d44 f45 d45 f46 d46 f47 d47 f48 d48 f49 d49 f50 d50 f19 d19 f20 d20 f21 d21 f22 d22 f23 d23 f24 d24 f25 d25 f26 d26 f27 d27 f28 d28 f29 d29 f30 d30 f31 d31 hX hV ic g_ lG j3 jX jm k9 wA nF lH ()):=⟨⟨F0,F0.bd,aam X G m0⟩,⟨F1,F1.bd,aam X G m1⟩,⟨F2,F2.bd,aam X G m2⟩,⟨F3,F3.bd,aam X G m3⟩,⟨F33,F33.bd,Yw⟩,⟨F34,F34.bd,Yx⟩,⟨F4,F4.bd,aam X G m4⟩,⟨F5,F5.bd,aam X G m5⟩,⟨F6,F6.bd,aam X G m6⟩,⟨F7,F7.bd,aam X G m7⟩,⟨F8,F8.bd,aam X G m8⟩,⟨F9,F9.bd,aam X G m9⟩,⟨F10,F10.bd,aam X G m10⟩,⟨F11,F11.bd,aam X G m11⟩,⟨F12,F12.bd,aam X G m12⟩,⟨F13,F13.bd,aam X G m13⟩,⟨F14,F14.bd,aam X G m14⟩,⟨F35,F35.bd,Yy⟩,⟨F36,F36.bd,m36⟩,⟨F37,F37.bd,m37⟩,⟨F15,F15.bd,aam X G m15⟩,⟨F16,F16.bd,aam X G m16⟩,⟨F17,F17.bd,aam X G m17⟩,⟨F18,F18.bd,aam X G m18⟩,⟨F38,F38.bd,Yz⟩,⟨F39,F39.bd,m39⟩,⟨F40,F40.bd,m40⟩,⟨F41,F41.bd,m41⟩,⟨F42,F42.bd,m42⟩,⟨F43,F43.bd,m43⟩,⟨F44,F44.bd,m44⟩,⟨F45,F45.bd,m45⟩,⟨F46,F46.bd,m46⟩,⟨F47,F47.bd,m47⟩,⟨F48,F48.bd,m48⟩,⟨F49,F49.bd,m49⟩,⟨F50,F50.bd,m50⟩,⟨F19,F19.bd,aam X G m19⟩,⟨F20,F20.bd,aam X G m20⟩,⟨F21,F21.bd,aam X G m21⟩,⟨F22,F22.bd,aam X G m22⟩,⟨F23,F23.bd,aam X G m23⟩,⟨F24,F24.bd,aam X G m24⟩,⟨F25,F25.bd,aam X G m25⟩,⟨F26,F26.bd,aam X G m26⟩,⟨F27,F27.bd,aam X G m27⟩,⟨F28,F28.bd,aam X G m28⟩,⟨F29,F29.bd,aam X G m29⟩,⟨F30,F30.bd,aam X G m30⟩,⟨F31,F31.bd,aam X G m31⟩,⟨Cv,Cw,Cy,Cz⟩,⟨CA,Yw.at_,Yw.fn,CB⟩,aam X G Ct,hZ,jI,iD,iE,⟨zN,zO,zP,zQ⟩,⟨zR,Yx.at_,Yx.fn,zS⟩,aam X G zL,iT,jl,jK,jL,iW,⟨zT,zU,zV,zW⟩,⟨zX,Yy.at_,Yy.fn,zY⟩,aam X G zM,jt,iw,⟨CC,CD,CF,CG⟩,⟨CH,Yz.at_,Yz.fn,CI⟩,aam X G Cu,i7,jM,i8,⟨aam X G oW,oY⟩,⟨aam X G ur,uw⟩,⟨aam X G qx,qB⟩,⟨aam X G uu,ux⟩,⟨aam X G qy,qC⟩,⟨aam X G CJ,CM⟩,aam X G oX,aam X G mX,True.intro⟩
 refine⟨d32,λs v=>?_,λbase _ _=>ON F32 T O⟩
 obtain⟨_,_,_,_,_,_,_,_,_,rfl,_,_⟩:=F32.ex
 exact .of_eq rfl
theorem walk{l:W.OpenLaw}{q:Program}{loose:List Str}{XP:(Qqx)->Heap->Prop}{YP:World->Heap->Prop}{d:DefRec}{K:Params->Qqy}(hn:l.most=some 63)(RI:d.params.defaults=[])
  (hY:∀(w:World)(h:Heap),YP w h->(K w.params).In h)
  (F:∀(w:World)(mg:Qqx)(fa:Addr)(h:Heap),(K w.params).In h->h.Ns mainGlobals mg->mg d.name=some (.ref fa)->
   ∃fd:FuncData,(∀(s:Shared)(u:Value),BindsTo s fd ⟨[u],[]⟩ [("script",u)])/\∀base:Heap,(K w.params).In base->base.Ns mainGlobals mg->iq l.prog w (K w.params) mg base lN 20 fa fd ["script"] (Gi (K w.params))) :
  W.WalkO q loose XP YP l.row.toRowW d [] (λf vs=>PySem.call f vs):=
 L2.K2 (n:=63) (k:=20) (x:="script") (CX:=λ_=>lN) (sp:=λw=>Gi (K w.params)) hn (by decide) RI ⟨rfl,by decide,by decide⟩ hY F (λ_ _ a ns hl _ hS=>⟨a,ns,rfl,hS,hl,λ_=>rfl⟩) λ_ _ _ _ _ z=>z
end PK
open PySem PySem.W PyProof.Rows
theorem PySem.Challenge.cw_patchkin_k03_recorded_holds : PySem.Challenge.rw_patchkin_k03_recorded.Holds := by
 w_on;o_law;k_head;(case hw=>w_witness2)
 k_fill
 refine PK.walk (l:=PySem.Challenge.rw_patchkin_k03_recorded) rfl rfl (λw h Y=>PySem.W.kIn_of Y) ?F
 case F=>
  intro w mg fa h KX G RJ
  refine' PK.all_mk KX G RJ ?zqCt ?zqzL ?zqzM ?zqCu ?zqh0 ?zqh1 ?zqh2 ?zqh3 ?zqh4 ?zqh5 ?zqh6 ?zqh7 ?zqh8 ?zqh9 ?zqUe ?zqSH ?zqXS ?zqXT ?zqXU ?zqXW ?zqXX ?zqXY ?zqXZ ?zqX0 ?zqUg ?zqSI ?zqX3 ?zqX8 ?zqX9 ?zqX_ ?zqYa ?zqYb ?zqYc ?zqYd ?zqYe ?zqYf ?zqYg ?zqYh ?zqYi ?zqYj ?zqYk ?zqYl ?zqYm ?zqYn ?zqUh ?zqSK ?zqYo ?zqYp ?zqYq ?zqYr ?zqYs ?zqYt ?zqYu ?zqYv ?zqUi ?zqCv ?zqCw ?zqCy ?zqCz ?zqCA ?zqCB ?zqhZ ?zqjI ?zqiD ?zqiE ?zqzN ?zqzO ?zqzP ?zqzQ ?zqzR ?zqzS ?zqiT ?zqjl ?zqjK ?zqjL ?zqiW ?zqzT ?zqzU ?zqzV ?zqzW ?zqzX ?zqzY ?zqjt ?zqiw ?zqCC ?zqCD ?zqCF ?zqCG ?zqCH ?zqCI ?zqi7 ?zqjM ?zqi8 ?zqoW ?zqur ?zqqx ?zquu ?zqqy ?zqCJ ?zqoX ?zqmX ?zqKi ?zqCK ?zqKj ?zqqz ?zqKk ?zqFx ?zqFy ?zqCL ?zqKl ?zquv ?zqzZ ?zqKm ?zqsu ?zqqA ?zqoY ?zquw ?zqqB ?zqux ?zqqC ?zqCM
  (case zqCt|zqzL|zqzM|zqCu=>k_is)
  (case zqh0|zqh1|zqh2|zqh3|zqh4|zqh5|zqh6|zqh7|zqh8|zqh9|zqUe|zqSH|zqXS|zqXT|zqXU|zqXW|zqXX|zqXY|zqXZ|zqX0|zqUg|zqSI|zqX3|zqX8|zqX9|zqX_|zqYa|zqYb|zqYc|zqYd|zqYe|zqYf|zqYg=>refine' L2.QX ?a ?l ?c ?k;(case a=>k_is);(case l=>k_is);(case c=>k_is);(case k=>k_is))
  (case zqYh|zqYi|zqYj|zqYk|zqYl|zqYm|zqYn|zqUh|zqSK|zqYo|zqYp|zqYq|zqYr|zqYs|zqYt|zqYu|zqYv|zqUi=>refine' L2.QY ?a ?i ?l ?c ?k;(case a=>k_is);(case i=>k_is);(case l=>k_is);(case c=>k_is);(case k=>k_is))
  (case zqCv|zqCw|zqCy|zqCz|zqCA|zqCB|zqhZ|zqjI|zqiD|zqiE|zqzN|zqzO|zqzP|zqzQ|zqzR|zqzS|zqiT|zqjl|zqjK|zqjL|zqiW|zqzT|zqzU|zqzV|zqzW|zqzX|zqzY|zqjt|zqiw|zqCC|zqCD|zqCF|zqCG|zqCH|zqCI|zqi7|zqjM|zqi8|zqoW|zqur|zqqx|zquu|zqqy|zqCJ|zqoX|zqmX|zqKi|zqCK|zqKj|zqqz|zqKk|zqFx|zqFy|zqCL|zqKl|zquv|zqzZ|zqKm|zqsu|zqqA=>k_is)
  (case zqoY|zquw|zqqB|zqux|zqqC|zqCM=>k_exc)
