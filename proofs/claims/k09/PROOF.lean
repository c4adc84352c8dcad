import PyProof.Rows.All
import Wide.All
import OpenK.AllK
import Wide.FinOn
import Lean
import PyProof.EqAt
import PyProof.EqKinds
import PyProof.TupleCall
import PyProof.NeKinds
import PyProof.SliceStr2
import KE.KDictList
import PyProof.CollectIter
import PyProof.EnumFor
import PyProof.EnumMake
import PyProof.LayNew
import PySem.Str
import PyProof.Rows.RegStrFacts
import PyProof.StrLawsRepr
import PySem.Challenge.RW_patchkin_k09_whole_any_order
set_option Elab.async false
set_option linter.all false
set_option maxRecDepth 100000
set_option maxHeartbeats 0
theorem So:type_of% @List.length_map:=@List.length_map
theorem Ss:type_of% @PySem.wpAny_bind:=@PySem.wpAny_bind
theorem Su:type_of% @List.getElem?_eq_getElem:=@List.getElem?_eq_getElem
theorem Vq:type_of% @List.length_append:=@List.length_append
theorem Vs:type_of% @List.mem_of_getElem?:=@List.mem_of_getElem?
theorem Vx:type_of% @Nat.le_refl:=@Nat.le_refl
theorem Vy:type_of% @decide_eq_true:=@decide_eq_true
theorem Wg:type_of% @List.mem_cons:=@List.mem_cons
theorem Wl:type_of% @List.mem_append:=@List.mem_append
theorem YH:type_of% @PySem.Heap.get?_push_of_some:=@PySem.Heap.get?_push_of_some
theorem YI:type_of% @List.mem_append_left:=@List.mem_append_left
theorem YK:type_of% @List.filter_cons_of_pos:=@List.filter_cons_of_pos
theorem YM:type_of% @List.size_toArray:=@List.size_toArray
theorem aaa:type_of% @List.mem_map_of_mem:=@List.mem_map_of_mem
theorem aab:type_of% @decide_eq_false:=@decide_eq_false
theorem aac:type_of% @Nat.le_trans:=@Nat.le_trans
theorem aad:type_of% @Bool.false_ne_true:=@Bool.false_ne_true
theorem aae:type_of% @List.getElem?_map:=@List.getElem?_map
theorem aaf:type_of% @List.length_cons:=@List.length_cons
theorem aag:type_of% @List.filter_cons_of_neg:=@List.filter_cons_of_neg
theorem aah:type_of% @PySem.W.mg_of:=@PySem.W.mg_of
theorem aai:type_of% @PySem.wpAny_pure:=@PySem.wpAny_pure
theorem aaj:type_of% @List.mem_cons_of_mem:=@List.mem_cons_of_mem
theorem aak:type_of% @List.take_length:=@List.take_length
theorem aal:type_of% @if_neg:=@if_neg
theorem aam:type_of% @List.mem_filter:=@List.mem_filter
theorem aan:type_of% @PySem.Paired.length:=@PySem.Paired.length
theorem aao:type_of% @PySem.boot_len:=@PySem.boot_len
theorem aap:type_of% @PySem.PassesOwn.never:=@PySem.PassesOwn.never
theorem aaq:type_of% @if_pos:=@if_pos
theorem aar:type_of% @PySem.Heap.lt_size:=@PySem.Heap.lt_size
theorem aas:type_of% @Nat.lt_of_lt_of_le:=@Nat.lt_of_lt_of_le
theorem aat:type_of% @List.map_append:=@List.map_append
theorem aau:type_of% @of_decide_eq_true:=@of_decide_eq_true
theorem aav:type_of% @List.mem_cons_self:=@List.mem_cons_self
theorem aaw:type_of% @List.map_cons:=@List.map_cons
theorem aax:type_of% @PySem.Heap.get?_push_size:=@PySem.Heap.get?_push_size
theorem aay:type_of% @PySem.sizeLine_eq:=@PySem.sizeLine_eq
theorem aaz:type_of% @Option.some.inj:=@Option.some.inj
theorem aaA:type_of% @List.mem_append_right:=@List.mem_append_right
theorem aaB:type_of% @List.length_take:=@List.length_take
theorem aaC:type_of% @List.Sublist.refl:=@List.Sublist.refl
theorem aaD:type_of% @List.flatMap_cons:=@List.flatMap_cons
theorem aaE:type_of% @List.length_eq_zero_iff:=@List.length_eq_zero_iff
theorem aaF:type_of% @PySem.F.plainAttrs_list:=@PySem.F.plainAttrs_list
theorem aaG:type_of% @List.length_filter_le:=@List.length_filter_le
theorem aaH:type_of% @List.filter_append:=@List.filter_append
theorem aaI:type_of% @Nat.zero_le:=@Nat.zero_le
theorem aaJ:type_of% @List.append_nil:=@List.append_nil
theorem aaK:type_of% @List.append_assoc:=@List.append_assoc
theorem aaL:type_of% @List.mem_iff_getElem?:=@List.mem_iff_getElem?
theorem aaM:type_of% @PyProof.Rows.boot_isinstance:=@PyProof.Rows.boot_isinstance
theorem aaN:type_of% @Nat.ne_of_lt:=@Nat.ne_of_lt
theorem aaO:type_of% @Bool.false_eq_true:=@Bool.false_eq_true
theorem aaP:type_of% @List.drop_eq_getElem_cons:=@List.drop_eq_getElem_cons
theorem aaQ:type_of% @PySem.F.slot_list_append:=@PySem.F.slot_list_append
theorem aaR:type_of% @PySem.F.type_list_append:=@PySem.F.type_list_append
theorem aaS:type_of% @PySem.W.mg_none_of:=@PySem.W.mg_none_of
theorem aaT:type_of% @Bool.and_eq_true:=@Bool.and_eq_true
theorem aaU:type_of% @List.filter_sublist:=@List.filter_sublist
theorem aaV:type_of% @Array.getElem?_eq_getElem:=@Array.getElem?_eq_getElem
theorem aaW:type_of% @PyProof.Rows.callWith_type1:=@PyProof.Rows.callWith_type1
theorem aaX:type_of% @List.nodup_cons:=@List.nodup_cons
theorem aaY:type_of% @List.filter_nil:=@List.filter_nil
theorem aaZ:type_of% @List.nodup_append:=@List.nodup_append
theorem aa0:type_of% @Array.getElem?_toList:=@Array.getElem?_toList
theorem aa1:type_of% @List.sublist_append_right:=@List.sublist_append_right
theorem aa2:type_of% @congrArg:=@congrArg
theorem aa3:type_of% @decide_eq_true_iff:=@decide_eq_true_iff
theorem aa4:type_of% @Nat.lt_irrefl:=@Nat.lt_irrefl
theorem aa5:type_of% @Array.length_toList:=@Array.length_toList
theorem aa6:type_of% @PySem.mem_of_lookup:=@PySem.mem_of_lookup
theorem aa7:type_of% @PySem.Heap.get?_update_self:=@PySem.Heap.get?_update_self
theorem aa8:type_of% @List.replicate_succ:=@List.replicate_succ
theorem aa9:type_of% @List.mem_flatMap:=@List.mem_flatMap
theorem aa_:type_of% @PySem.wpAny_dictEntries:=@PySem.wpAny_dictEntries
theorem aba:type_of% @List.getElem?_append_right:=@List.getElem?_append_right
theorem abb:type_of% @PySem.Calls.spliced_cons:=@PySem.Calls.spliced_cons
theorem abc:type_of% @List.getElem?_set_self:=@List.getElem?_set_self
theorem abd:type_of% @PySem.Calls.callWith_builtin:=@PySem.Calls.callWith_builtin
theorem abe:type_of% @PyProof.Rows.boot_list:=@PyProof.Rows.boot_list
theorem abf:type_of% @PySem.W.kia_one:=@PySem.W.kia_one
theorem abg:type_of% @List.nodup_nil:=@List.nodup_nil
theorem abh:type_of% @List.filter_cons:=@List.filter_cons
theorem abi:type_of% @List.length_reverse:=@List.length_reverse
theorem abj:type_of% @PySem.Heap.SameBut.update:=@PySem.Heap.SameBut.update
theorem abk:type_of% @PySem.F.slot_dict_keyiterator_next:=@PySem.F.slot_dict_keyiterator_next
theorem abl:type_of% @Bool.eq_iff_iff:=@Bool.eq_iff_iff
theorem abm:type_of% @Nat.lt_of_le_of_lt:=@Nat.lt_of_le_of_lt
theorem abn:type_of% @List.getElem?_set_ne:=@List.getElem?_set_ne
theorem abo:type_of% @PySem.wpAny_mono:=@PySem.wpAny_mono
theorem abp:type_of% @PySem.Calls.evalArgs_plain:=@PySem.Calls.evalArgs_plain
theorem abq:type_of% @List.lookup_cons:=@List.lookup_cons
theorem abr:type_of% @List.all_eq_true:=@List.all_eq_true
theorem abt:type_of% @List.sublist_cons_self:=@List.sublist_cons_self
theorem abu:type_of% @List.filterMap_cons:=@List.filterMap_cons
theorem abv:type_of% @PySem.wpAny_truthy_bool:=@PySem.wpAny_truthy_bool
theorem abw:type_of% @PySem.Calls.spliced_nil:=@PySem.Calls.spliced_nil
theorem abx:type_of% @List.take_zero:=@List.take_zero
theorem aby:type_of% @List.take_append_drop:=@List.take_append_drop
theorem abz:type_of% @PySem.tupleKind_room_in1:=@PySem.tupleKind_room_in1
theorem abA:type_of% @PySem.wpAny_typeNameOfWhole_keyiter:=@PySem.wpAny_typeNameOfWhole_keyiter
theorem abB:type_of% @List.flatMap_nil:=@List.flatMap_nil
theorem abC:type_of% @PySem.F.plainAttrs_dict:=@PySem.F.plainAttrs_dict
theorem abD:type_of% @PySem.Heap.size_push:=@PySem.Heap.size_push
theorem abE:type_of% @Bool.eq_false_iff:=@Bool.eq_false_iff
theorem abF:type_of% @Ne.symm:=@Ne.symm
theorem abG:type_of% @List.map_congr_left:=@List.map_congr_left
theorem abH:type_of% @Bool.or_eq_true:=@Bool.or_eq_true
theorem abI:type_of% @List.flatMap_append:=@List.flatMap_append
theorem abJ:type_of% @PySem.Heap.get?_update_other:=@PySem.Heap.get?_update_other
theorem abK:type_of% @beq_iff_eq:=@beq_iff_eq
theorem abL:type_of% @List.not_mem_nil:=@List.not_mem_nil
theorem abM:type_of% @PySem.wpAny_holding:=@PySem.wpAny_holding
theorem abN:type_of% @List.getElem?_take:=@List.getElem?_take
theorem abO:type_of% @List.filterMap_append:=@List.filterMap_append
theorem abP:type_of% @List.getElem?_append_left:=@List.getElem?_append_left
theorem abQ:type_of% @List.pairwise_iff_getElem:=@List.pairwise_iff_getElem
theorem abR:type_of% @PySem.wpAny_passesOwn:=@PySem.wpAny_passesOwn
theorem abS:type_of% @Int.toNat_natCast:=@Int.toNat_natCast
theorem abT:type_of% @List.flatten_cons:=@List.flatten_cons
theorem abU:type_of% @bne_self_eq_false:=@bne_self_eq_false
theorem abV:type_of% @decide_eq_true_eq:=@decide_eq_true_eq
theorem abW:type_of% @PySem.F.slot_dict_update:=@PySem.F.slot_dict_update
theorem abX:type_of% @List.length_range:=@List.length_range
theorem abY:type_of% @List.getElem?_inj:=@List.getElem?_inj
theorem abZ:type_of% @Nat.lt_succ_self:=@Nat.lt_succ_self
theorem ab0:type_of% @PySem.wpAny_call_entry:=@PySem.wpAny_call_entry
theorem ab1:type_of% @List.mem_filterMap:=@List.mem_filterMap
theorem ab2:type_of% @if_false:=@if_false
theorem ab3:type_of% @List.getElem?_drop:=@List.getElem?_drop
theorem ab4:type_of% @List.Nodup.sublist:=@List.Nodup.sublist
theorem ab5:type_of% @Nat.ne_of_gt:=@Nat.ne_of_gt
theorem ab6:type_of% @List.find?_cons:=@List.find?_cons
theorem ab7:type_of% @Option.map_some:=@Option.map_some
theorem ab8:type_of% @PySem.F.slot_dict_pop:=@PySem.F.slot_dict_pop
theorem ab9:type_of% @PySem.wpAny_specialOf:=@PySem.wpAny_specialOf
theorem ab_:type_of% @PySem.wpAny_ite_split:=@PySem.wpAny_ite_split
theorem aca:type_of% @PySem.size_of_entries:=@PySem.size_of_entries
theorem acb:type_of% @List.range_succ:=@List.range_succ
theorem acd:type_of% @List.take_sublist:=@List.take_sublist
theorem ace:type_of% @beq_self_eq_true:=@beq_self_eq_true
theorem acf:type_of% @List.range'_succ:=@List.range'_succ
theorem acg:type_of% @List.drop_length:=@List.drop_length
theorem ach:type_of% @List.any_eq_true:=@List.any_eq_true
theorem aci:type_of% @Sum.inr.inj:=@Sum.inr.inj
theorem acj:type_of% @Nat.le_of_eq:=@Nat.le_of_eq
theorem ack:type_of% @List.length_set:=@List.length_set
abbrev Qqq:=PySem.Value→PySem.Shared→Prop
abbrev Qqz:=List (PySem.Addr×PySem.Obj)
abbrev Qqx:=PySem.Str→Option PySem.Value
abbrev Qqy:=PySem.W.Frag
namespace L2
open PySem PySem.Spec PyProof.Rows
abbrev Key:=Sum Int Str
noncomputable def y0:Key→Value→Bool
 | .inl k,v=>Value.isInt k v
 | .inr x,v=>Value.isStrOf x v
noncomputable def UT(w:World):Key→Int
 | .inl k=>hashInt k
 | .inr x=>hashStr w x
theorem jr:∀{k:Key} {v:Value},y0 k v=true→(∃i t,k=Sum.inl i∧v=Value.int i t)∨(∃x t,k=Sum.inr x∧v=Value.str x t)
 | .inl i,v,h=>by
  obtain⟨t,e⟩:=Value.isInt_shape (k:=i) (v:=v) h
  exact .inl ⟨i,t,rfl,e⟩
 | .inr x,v,h=>by
  obtain⟨t,e⟩:=Value.isStrOf_shape (x:=x) (v:=v) h
  exact .inr ⟨x,t,rfl,e⟩
theorem G6(i:Int)(t:Tok):y0 (.inl i) (.int i t)=true:=by simp[y0,Value.isInt]
theorem G7(x:Str)(t:Tok):y0 (.inr x) (.str x t)=true:=by simp[y0,Value.isStrOf]
theorem ND(a b:Int):decide ((Sum.inl a:Key)=Sum.inl b)=(a ==b):=by
 by_cases e:a=b
 ·subst e;simp
 ·have h:¬(Sum.inl a:Key)=Sum.inl b:=fun q=>e (Sum.inl.inj q)
  rw[aab h]
  exact(beq_eq_false_iff_ne.mpr e).symm
theorem NF(a b:Str):decide ((Sum.inr a:Key)=Sum.inr b)=decide (a=b):=by
 by_cases e:a=b
 ·subst e;simp
 ·have h:¬(Sum.inr a:Key)=Sum.inr b:=fun q=>e (aci q)
  rw[aab h,aab e]
theorem NG(a:Int)(b:Str):decide ((Sum.inl a:Key)=Sum.inr b)=false:=aab (fun q=>nomatch q)
theorem NH(a:Str)(b:Int):decide ((Sum.inr a:Key)=Sum.inl b)=false:=aab (fun q=>nomatch q)
noncomputable def ja(prog:Program)(w:World):PySem.KeyKind prog w Key where
 is:=y0
 hash:=UT w
 inj:=fun v a b ha hb=>by
  rcases jr ha with⟨i,t,rfl,rfl⟩|⟨x,t,rfl,rfl⟩
  ·rcases jr hb with⟨j,u,rfl,e⟩|⟨y,u,rfl,e⟩
   ·injection e with e1 _;rw[e1]
   ·exact nomatch e
  ·rcases jr hb with⟨j,u,rfl,e⟩|⟨y,u,rfl,e⟩
   ·exact nomatch e
   ·injection e with e1 _;rw[e1]
 byValue:=fun k v h=>by
  rcases jr h with⟨i,t,rfl,rfl⟩|⟨x,t,rfl,rfl⟩<;>rfl
 pyHash:=fun hv h=>by
  rcases jr hv with⟨i,t,rfl,rfl⟩|⟨x,t,rfl,rfl⟩
  ·exact wpAny_pyHash_int h
  ·exact wpAny_pyHash_str h
 eqBool:=fun hu hv h=>by
  rcases jr hu with⟨i,t,rfl,rfl⟩|⟨x,t,rfl,rfl⟩
  ·rcases jr hv with⟨j,u,rfl,rfl⟩|⟨y,u,rfl,rfl⟩
   ·rw[ND] at h;exact wpAny_eqBool_int h
   ·rw[NG] at h;exact SeqAt.EqAt.int_str i t y u _ _ _ _ h
  ·rcases jr hv with⟨j,u,rfl,rfl⟩|⟨y,u,rfl,rfl⟩
   ·rw[NH] at h;exact SeqAt.EqAt.str_int x t j u _ _ _ _ h
   ·rw[NF] at h;exact wpAny_eqBool_str h
 «strs»:=fun k x t v h=>by
  rcases jr h with⟨i,u,rfl,e⟩|⟨y,u,rfl,e⟩
  ·exact nomatch e
  ·injection e with e1 _
   subst e1
   cases v<;>rfl
theorem Di(prog:Program)(w:World)(i:Int)(t:Tok):(ja prog w).is (.inl i) (.int i t)=true:=G6 i t
theorem Dj(prog:Program)(w:World)(x:Str)(t:Tok):(ja prog w).is (.inr x) (.str x t)=true:=G7 x t
inductive V where
 | jl|bl (b:Bool)|int (i:Int)|str (x:Str)|E4 (b:Array UInt8)|MP (b:UInt64)|ref (a:Addr)|ty (n:String)
 deriving DecidableEq
def RelV:V→Value→Prop
 | .jl,u=>u=Value.none
 | .bl b,u=>u=Value.bool b
 | .int i,u=>∃t,u=Value.int i t
 | .str x,u=>∃t,u=Value.str x t
 | .E4 b,u=>∃t,u=Value.bytes b t
 | .MP b,u=>∃t,u=Value.float b t
 | .ref a,u=>u=Value.ref a
 | .ty n,u=>u=Value.type n
abbrev Vals:List V→List Value→Prop:=Paired RelV
theorem Vals.length{xs:List V}{us:List Value}(r:Vals xs us):xs.length=us.length:=aan r
theorem Vals.get:∀{xs:List V} {us:List Value} {i:Nat} {x:V},Vals xs us→xs[i]?=some x→∃u,us[i]?=some u∧RelV x u
 | _,_,_,_,.nil,e=>by simp at e
 | _,_,0,_,.cons r _,e=>by simp at e;subst e;exact⟨_,rfl,r⟩
 | _,_,i+1,x,.cons _ t,e=>by
  obtain⟨u,h1,h2⟩:=Vals.get (i:=i) (x:=x) t (by simpa using e)
  exact⟨u,by simpa using h1,h2⟩
theorem Vals.set{x:V}{u:Value}(r:RelV x u):∀{xs:List V} {us:List Value} (i:Nat),Vals xs us→Vals (xs.set i x) (us.set i u)
 | _,_,_,.nil=>.nil
 | _,_,0,.cons _ t=>.cons r t
 | _,_,i+1,.cons q t=>.cons q (Vals.set r i t)
theorem Vals.append:∀{xs ys:List V} {us ws:List Value},Vals xs us→Vals ys ws→Vals (xs++ys) (us++ws)
 | _,_,_,_,.nil,s=>s
 | _,_,_,_,.cons r t,s=>.cons r (Vals.append t s)
theorem Vals.take:∀{xs:List V} {us:List Value} (n:Nat),Vals xs us→Vals (xs.take n) (us.take n)
 | _,_,0,_=>.nil
 | _,_,_+1,.nil=>.nil
 | _,_,n+1,.cons r t=>.cons r (Vals.take n t)
theorem Vals.drop:∀{xs:List V} {us:List Value} (n:Nat),Vals xs us→Vals (xs.drop n) (us.drop n)
 | _,_,0,r=>r
 | _,_,_+1,.nil=>.nil
 | _,_,n+1,.cons _ t=>Vals.drop n t
def pk:Option V→Option Value→Prop
 | some v,some u=>RelV v u
 | none,none=>True
 | _,_=>False
def KV{κ:Type}:List (κ×V)→List (κ×Value)→Prop:=Paired fun(p:κ×V) (q:κ×Value)=>p.1=q.1∧RelV p.2 q.2
noncomputable def kV:Key→V
 | .inl i=>.int i
 | .inr x=>.str x
inductive HO where
 | lst (xs:List V)
 | tup (xs:List V)
 | dK (kvs:List (Key×V))|dT (kvs:List (List Key×V))
 | set (S:Int→Bool) (n:Nat)
 | ins (C dx:Addr) (fs:List (Str×V))
 | own (x:Addr)
 | xd (fs:List (Str×V))
 | met (f x:Addr)
 | TR (lo hi:Int)
 | nc (o:Obj) (u:HO)
 | K4 (ps:Array Value)
 | ext (φ:Heap→Prop)
abbrev Hp:=Addr→Option HO
noncomputable def upd(H:Hp)(a:Addr)(o:HO):Hp:=fun b=>if b=a then some o else H b
theorem b_{H:Hp}{a:Addr}{o:HO}:upd H a o a=some o:=by unfold upd;rw[aaq rfl]
theorem e_{H:Hp}{a b:Addr}{o:HO}(h:b≠a):upd H a o b=H b:=by unfold upd;rw[aal h]
theorem Lf{H:Hp}{a:Addr}{o u:HO}:upd (upd H a o) a u=upd H a u:=by
 funext b;unfold upd;split<;>rfl
theorem i4{H:Hp}{a b:Addr}{o u:HO}(h:H a=some o)(h':H b=some u)(d:o≠u):a≠b:=by
 intro e;subst e;rw[h] at h';exact d (aaz h')
theorem gh{H:Hp}{a b:Addr}{o:HO}(h:H a=some o)(h':H b=none):a≠b:=by
 intro e;subst e;rw[h] at h';cases h'
section
variable(P:Program)(w:World)
noncomputable def i3(H:Hp)(h:Heap)(a:Addr):HO→Prop
 | .lst xs=>xs.length≤sizeLine∧∃(gK:List Value)(n:Nat),Vals xs gK∧h.get? a=some {cls:=.type "list",data:=.seq gK.toArray n}
 | .tup xs=>xs.length≤sizeLine∧∃gK:List Value,Vals xs gK∧IsTup h a gK.toArray
 | .dK kvs=>kvs.length≤sizeLine∧(a ==sysModules)=false∧∃vs,KV kvs vs∧h.DictOf (ja P w) a vs
 | .dT kvs=>kvs.length≤sizeLine∧(a ==sysModules)=false∧∃xs:List (List Key×Addr×Value),
  Paired (fun(p:List Key×V) (q:List Key×Addr×Value)=>p.1=q.1∧H q.2.1=some (.tup (p.1.map kV))∧RelV p.2 q.2.2) kvs xs∧
  ∃o es ep,h.get? a=some o∧o.ExactDict∧o.data=.dict es ep∧es.toList=xs.map (entryOfKey (tupleKind (ja P w)))∧(xs.map (·.1)).Nodup
 | .set S n=>h.SetOf (intKind P w) a S n
 | .ins C dx fs=>H dx=some (.own a)∧fs.length≤1000∧dx≠a∧h.get? a=some (W.instObj C dx)∧
  ∃mA,h.Ns1 dx mA∧(∀f,pk (fs.lookup f) (mA f))∧PySem.Within mA (fs.map (·.1))
 | .own _=>∃o,h.get? a=some o
 | .xd fs=>∃mA,h.Ns1 a mA∧∀f,pk (fs.lookup f) (mA f)
 | .TR lo hi=>∃t u v,h.get? a=some {cls:=.type "range",data:=.fields #[.int lo t,.int hi u,.int 1 v]}
 | .nc o u=>h.get? a=some o∧i3 H h a u
 | .K4 ps=>h.get? a=some {cls:=.none,data:=.fields ps}
 | .met f x=>h.get? a=some (W.methodObj (.ref f) (.ref x))
 | .ext φ=>φ h∧(∃o,h.get? a=some o)∧∀h1 h2:Heap,φ h1→(∀o,h1.get? a=some o→h2.get? a=some o)→φ h2
def qO(H:Hp)(h:Heap):Prop:=∀a o,H a=some o→i3 P w H h a o
end
section
variable{P:Program}{w:World}{H H':Hp}{h h':Heap}{a:Addr}{o:HO}
theorem i3.lt(x:i3 P w H h a o):a<h.objs.size:=by
 cases o with
 | lst xs=>obtain⟨_,_,_,_,e⟩:=x;exact aar e
 | tup xs=>obtain⟨_,_,_,p⟩:=x;exact p.lt
 | dK kvs=>obtain⟨_,_,_,_,o,_,_,e,_⟩:=x;exact aar e
 | dT kvs=>obtain⟨_,_,_,_,o,_,_,e,_⟩:=x;exact aar e
 | set S n=>obtain⟨o,_,_,_,e,_⟩:=x;exact aar e
 | ins C dx fs=>obtain⟨_,_,_,e,_⟩:=x;exact aar e
 | own y=>obtain⟨_,e⟩:=x;exact aar e
 | xd fs=>obtain⟨_,⟨_,_,_,e,_⟩,_⟩:=x;exact aar e
 | TR lo hi=>obtain⟨_,_,_,e⟩:=x;exact aar e
 | nc ob u=>obtain⟨e,_⟩:=x;exact aar e
 | K4 ps=>exact aar (show h.get? a=some _ from x)
 | met f y=>exact aar (show h.get? a=some _ from x)
 | ext φ=>obtain⟨_,⟨_,e⟩,_⟩:=x;exact aar e
theorem Paired.kJ{α β:Type}{F G:α→β→Prop}:∀{l₁:List α} {l₂:List β},Paired F l₁ l₂→(∀a b,F a b→G a b)→Paired G l₁ l₂
 | _,_,.nil,_=>.nil
 | _,_,.cons r t,f=>.cons (f _ _ r) (Paired.kJ t f)
theorem i3.y4(x:i3 P w H h a o)(k:∀b u,(b=a∨H b=some (.own a))→h.get? b=some u→h'.get? b=some u)
  (ho:∀b,H b=some (.own a)→H' b=some (.own a)) (ht:∀b xs,H b=some (.tup xs)→H' b=some (.tup xs)):i3 P w H' h' a o:=by
 induction o with
 | lst xs=>obtain⟨z,gK,n,r,e⟩:=x;exact⟨z,gK,n,r,k _ _ (.inl rfl) e⟩
 | tup xs=>obtain⟨z,gK,r,ob,e,c⟩:=x;exact⟨z,gK,r,ob,k _ _ (.inl rfl) e,c⟩
 | dK kvs=>obtain⟨z,y,vs,r,ob,es,ep,e,c⟩:=x;exact⟨z,y,vs,r,ob,es,ep,k _ _ (.inl rfl) e,c⟩
 | dT kvs=>
  obtain⟨z,y,xs,r,ob,es,ep,e,c⟩:=x
  exact⟨z,y,xs,Paired.kJ r fun p q z=>⟨z.1,ht _ _ z.2.1,z.2.2⟩,ob,es,ep,k _ _ (.inl rfl) e,c⟩
 | set S n=>obtain⟨ob,es,ep,t,e,c⟩:=x;exact⟨ob,es,ep,t,k _ _ (.inl rfl) e,c⟩
 | ins C dx fs=>
  obtain⟨d,z,ne,e,mA,⟨od,es,ep,e2,c⟩,r⟩:=x
  exact⟨ho _ d,z,ne,k _ _ (.inl rfl) e,mA,⟨od,es,ep,k _ _ (.inr d) e2,c⟩,r⟩
 | own y=>obtain⟨ob,e⟩:=x;exact⟨ob,k _ _ (.inl rfl) e⟩
 | xd fs=>obtain⟨mA,⟨od,es,ep,e,c⟩,r⟩:=x;exact⟨mA,⟨od,es,ep,k _ _ (.inl rfl) e,c⟩,r⟩
 | TR lo hi=>obtain⟨t,u,v,e⟩:=x;exact⟨t,u,v,k _ _ (.inl rfl) e⟩
 | nc ob u ih=>obtain⟨e,q⟩:=x;exact⟨k _ _ (.inl rfl) e,ih q⟩
 | K4 ps=>
  have e:h.get? a=some {cls:=.none,data:=.fields ps}:=x
  show h'.get? a=some {cls:=.none,data:=.fields ps}
  exact k a _ (.inl rfl) e
 | met f y=>
  have e:h.get? a=some (W.methodObj (.ref f) (.ref y)):=x
  show h'.get? a=some (W.methodObj (.ref f) (.ref y))
  exact k a _ (.inl rfl) e
 | ext φ=>obtain⟨p,⟨o,e⟩,st⟩:=x;exact⟨st _ _ p fun o q=>k _ _ (.inl rfl) q,⟨o,k _ _ (.inl rfl) e⟩,st⟩
theorem qO.lt(x:qO P w H h)(e:H a=some o):a<h.objs.size:=(x a o e).lt
theorem qO.fresh(x:qO P w H h)(e:h.objs.size≤a):H a=none:=by
 cases q:H a with
 | none=>rfl
 | some u=>exact absurd (aas (x.lt q) e) (aa4 _)
theorem qO.kept(x:qO P w H h)(k:∀b u,h.get? b=some u→h'.get? b=some u):qO P w H h':=fun a o e=>
 (x a o e).y4 (fun b u _ q=>k b u q) (fun _ q=>q) fun _ _ q=>q
theorem qO.laid(x:qO P w H h)(k:∀b u,h.get? b=some u→h'.get? b=some u)(hp:h.objs.size≤a)(new:i3 P w (upd H a o) h' a o):qO P w (upd H a o) h':=fun b u e=>by
 have hn:=x.fresh hp
 by_cases hb:b=a
 ·subst hb;rw[b_] at e;cases e;exact new
 ·rw[e_ hb] at e
  exact(x b u e).y4 (fun c v _ q=>k c v q) (fun c q=>by rw[e_ (gh q hn)];exact q) fun c xs q=>by rw[e_ (gh q hn)];exact q
end
def Rd(H:Hp)(a:Addr)(u:HO):Prop:=H a=some u∨∃o,H a=some (.nc o u)
theorem Rd.ok{P:Program}{w:World}{H:Hp}{h:Heap}{a:Addr}{u:HO}(r:Rd H a u)(x:qO P w H h):i3 P w H h a u:=by
 rcases r with r|⟨o,r⟩
 ·exact x a u r
 ·obtain⟨_,q⟩:=x a _ r
  exact q
def MQ:Option HO→Prop
 | some (.lst _)=>True
 | some (.dK _)=>True
 | some (.dT _)=>True
 | some (.set _ _)=>True
 | some (.ins _ _ _)=>True
 | some (.ext _)=>True
 | _=>False
section
variable{P:Program}{w:World}{H:Hp}{h h':Heap}{x e:Addr}{o':HO}
theorem qO.write(ok:qO P w H h)(mu:MQ (H x))(he:e=x∨H e=some (.own x))(k:∀b u,b≠e→h.get? b=some u→h'.get? b=some u)(Kw:∃u,h'.get? e=some u)
  (new:i3 P w (upd H x o') h' x o'):qO P w (upd H x o') h':=fun b u q=>by
 have RT:∀c y,H c=some (.own y)→c≠x:=fun c y r z=>by subst z;rw[r] at mu;exact mu
 have VL:∀c xs,H c=some (.tup xs)→c≠x:=fun c xs r z=>by subst z;rw[r] at mu;exact mu
 by_cases hb:b=x
 ·subst hb;rw[b_] at q;cases q;exact new
 ·rw[e_ hb] at q
  by_cases Pb:b=e
  ·have q':H b=some (.own x):=by
    rcases he with z|z
    ·exact absurd (Pb.trans z) hb
    ·rw[Pb];exact z
   rw[q] at q';cases q'
   obtain⟨v,hv⟩:=Kw
   exact⟨v,by rw[Pb];exact hv⟩
  ·refine(ok b u q).y4 (fun c v hc r=>k c v ?_ r) (fun c r=>by rw[e_ (RT c b r)];exact r) fun c xs r=>by rw[e_ (VL c xs r)];exact r
   rcases hc with rfl|hc
   ·exact Pb
   ·rintro rfl
    rcases he with z|z
    ·exact RT c b hc z
    ·rw[hc] at z;cases z;exact hb rfl
end
structure Un(fs ex:List Addr)(H H':Hp)(h h':Heap):Prop where
 keep:∀b o,h.get? b=some o→H b=none→b∉fs→b∉ex→h'.get? b=some o
 slot:∀b o,h.get? b=some o→H b=none→b∈fs→b∉ex→∃sl,h'.get? b=some {o with slots:=sl}
 free:∀b o,h.get? b=some o→H b=none→b∉ex→H' b=none
 there:∀b o,h.get? b=some o→b∉ex→∃o',h'.get? b=some o'
 q9:∀b xs,H b=some (.tup xs)→H' b=some (.tup xs)
 uI:∀b o u,H b=some (.nc o u)→H' b=some (.nc o u)
 yt:∀b ps,H b=some (.K4 ps)→∃more,H' b=some (.K4 (ps++more))
section
variable{fs fs' ex ex':List Addr}{H H1 H2:Hp}{h h1 h2 h':Heap}{a x e:Addr}{o:HO}
theorem Un.any(u:Un fs ex H H1 h h1){b:Addr}{ob:Obj}(q:h.get? b=some ob)(n:H b=none)(hx:b∉ex):∃sl,h1.get? b=some {ob with slots:=sl}:=by
 by_cases hb:b∈fs
 ·exact u.slot b ob q n hb hx
 ·exact⟨ob.slots,u.keep b ob q n hb hx⟩
theorem Un.kept(k:∀b u,h.get? b=some u→h'.get? b=some u):Un fs ex H H h h':=
 ⟨fun b ob q _ _ _=>k b ob q,fun b ob q _ _ _=>⟨ob.slots,k b ob q⟩,fun _ _ _ n _=>n,fun b ob q _=>⟨ob,k b ob q⟩,fun _ _ q=>q,fun _ _ _ q=>q,fun _ ps q=>⟨#[],by rw[q];simp⟩⟩
theorem Un.refl:Un fs ex H H h h:=Un.kept fun _ _ q=>q
theorem Un.laid(k:∀b u,h.get? b=some u→h'.get? b=some u)(hp:h.objs.size≤a)(hn:H a=none):Un fs ex H (upd H a o) h h' where
 keep:=fun b u q _ _ _=>k b u q
 slot:=fun b u q _ _ _=>⟨u.slots,k b u q⟩
 free:=fun b u q n _=>by rw[e_ (aaN (aas (aar q) hp))];exact n
 there:=fun b u q _=>⟨u,k b u q⟩
 q9:=fun b xs q=>by rw[e_ (gh q hn)];exact q
 uI:=fun b u xs q=>by rw[e_ (gh q hn)];exact q
 yt:=fun b ps q=>⟨#[],by rw[e_ (gh q hn),q];simp⟩
theorem Un.write(mu:MQ (H x))(he:e=x∨H e=some (.own x))(k:∀b u,b≠e→h.get? b=some u→h'.get? b=some u)(Kw:∃u,h'.get? e=some u):Un fs ex H (upd H x o) h h':=by
 have hx:∀b,H b=none→b≠x:=fun b n z=>by subst z;rw[n] at mu;exact mu
 have hb:∀b,H b=none→b≠e:=fun b n z=>by
  subst z
  rcases he with r|r
  ·exact hx b n r
  ·rw[n] at r;cases r
 have hm:∀b u,H b=some u→¬MQ (some u)→b≠x:=fun b u q nm z=>by subst z;rw[q] at mu;exact nm mu
 refine⟨fun b u q n _ _=>k b u (hb b n) q,fun b u q n _ _=>⟨u.slots,k b u (hb b n) q⟩,fun b u q n _=>by rw[e_ (hx b n)];exact n,fun b u q _=>?_,
  fun b xs q=>by rw[e_ (hm b _ q fun z=>z)];exact q,fun b u xs q=>by rw[e_ (hm b _ q fun z=>z)];exact q,fun b ps q=>⟨#[],by rw[e_ (hm b _ q fun z=>z),q];simp⟩⟩
 by_cases Pb:b=e
 ·subst Pb;exact Kw
 ·exact⟨u,k b u Pb q⟩
end
noncomputable def TU(h:Heap)(H:Hp):List Addr:=(List.range h.objs.size).filter fun a=>(H a).isSome
noncomputable def BR(h:Heap)(H:Hp):Heap:=W.hideAll h (TU h H)
theorem G8(h:Heap)(H:Hp):(BR h H).objs.size=h.objs.size:=W.hideAll_size _ _
theorem IA{h:Heap}{H:Hp}{b:Addr}{o:Obj}(e:h.get? b=some o)(n:H b=none):(BR h H).get? b=some o:=
 W.hideAll_get _ e fun hm=>by
  have q:(H b).isSome=true:=(aam.mp hm).2
  rw[n] at q;simp at q
theorem Lg{h:Heap}{H:Hp}{b:Addr}{o:Obj}(e:(BR h H).get? b=some o):h.get? b=some o∧H b=none:=by
 have e':h.get? b=some o:=W.of_hideAll (TU h H) e
 refine⟨e',?_⟩
 cases q:H b with
 | none=>rfl
 | some x=>
  have hm:b∈TU h H:=aam.mpr ⟨List.mem_range.mpr (aar e'),by simp[q]⟩
  have z:(BR h H).get? b=none:=W.hideAll_none (TU h H) hm
  rw[z] at e;cases e
def Lh(g h:Heap)(L:Addr):Qqz:=(List.range h.objs.size).filterMap fun a=>if a=L∨(g.get? a).isSome=true then none else(h.get? a).map fun o=>(a,o)
def rest(g h:Heap)(L d:Addr):Qqz:=(Lh g h L).filter fun p=>decide (p.1≠d)
structure Mod(K:Qqy)(mg:Qqx)(base:Heap):Prop where
 P8:K.In base
 glob:base.Ns mainGlobals mg
 blt:∃mb,base.Ns builtinsNs mb∧∀x:Str,x≠"__name__"→mb x=bootBuiltins x
 nolimit:base.NoLimit
structure Cx where
 prog:Program
 w:World
 K:Qqy
 mg:Qqx
 base:Heap
 A:Around
 N:List Str
 s₀:Shared
 H₀:Hp
 env:Env
 outer:List Env
 stack:List Env
 ex:List Addr
 fn:Str→Bool
 calm:Bool
 pn:Qqz
 xe:Qqq
noncomputable def tH(l:List Env):List Addr:=l.filterMap (·.frame)
noncomputable abbrev Cx.fs(X:Cx):List Addr:=tH X.outer
def UU(sc:Scope)(x:Str):Prop:=sc.names.lookup x=some .local∨sc.names.lookup x=some .cell∨sc.names.lookup x=some .free
def Loc(sc:Scope)(x:Str):Prop:=sc.names.lookup x=some .local∨sc.names.lookup x=some .cell
def Look(env:Env)(h:Heap)(m:Qqx)(x:Str)(u:Value):Prop:=
 (env.kindOf x=some .local∧m x=some u)∨((env.kindOf x=some .cell∨env.kindOf x=some .free)∧∃c,env.cells.lookup x=some c∧h.IsCell c (some u))
structure Cx.Ok(X:Cx):Prop where
 mod:Mod X.K X.mg X.base
 kind:X.env.scope.kind=.function
 glob:X.env.globals=mainGlobals
 blt:X.env.builtins=builtinsNs
 above:X.s₀.heap.objs.size≤X.env.locals
 inj:∀x y c,X.env.cells.lookup x=some c→X.env.cells.lookup y=some c→x=y
 has:∀x,(X.env.kindOf x=some .cell∨X.env.kindOf x=some .free)→∃c,X.env.cells.lookup x=some c
 NI:∀x c,X.fn x=true→X.env.cells.lookup x=some c→X.s₀.heap.objs.size≤c
 hd:X.calm=true→X.A.handled=none
 frames:X.A.frames=some X.stack
 P9:X.stack=X.outer∨(X.stack=X.env::X.outer∧X.env.frame=some X.env.locals)
 TV:∀b∈X.ex,b≠X.env.locals∧∀x c,X.env.cells.lookup x=some c→c≠b
 bs:∀b o,X.base.get? b=some o→X.s₀.heap.get? b=some o∧X.H₀ b=none
 IB:X.base.objs.size≤X.s₀.heap.objs.size
 q_:∀b o,X.base.get? b=some o→b∉X.ex
 G9:∀b∈X.ex,b∉X.fs
 tZ:X.s₀.heap.FunFrames X.base X.outer
 Li:∀b∈X.fs,X.H₀ b=none
structure Inv(X:Cx)(c_:Qqz)(σ:List (Option V))(H:Hp)(s:Shared):Prop where
 ok:X.Ok
 os:s.os=X.s₀.os
 bare:AllBare s.gens
 base:Un X.fs X.ex X.H₀ H X.s₀.heap s.heap
 loc:∃m,s.heap.Ns X.env.locals m∧∀(i:Nat)(x:Str)(v:V),X.N[i]?=some x→σ[i]?=some (some v)→UU X.env.scope x→∃u,RelV v u∧Look X.env s.heap m x u
 cell:∀x c,X.env.cells.lookup x=some c→∃v,s.heap.IsCell c v
 free:H X.env.locals=none
 nF:∀x c,X.env.cells.lookup x=some c→H c=none
 pin:∀p∈X.pn++c_,s.heap.get? p.1=some p.2∧H p.1=none∧p.1≠X.env.locals∧p.1∉X.fs∧∀v,p.2.data≠.cell v
 iG:qO X.prog X.w H s.heap
 len:σ.length=X.N.length
section
variable{X:Cx}{c_:Qqz}{σ:List (Option V)}{H H':Hp}{s:Shared}{h':Heap}
theorem Cx.Ok.Lj(ok:X.Ok){b:Addr}{o:Obj}(e:X.base.get? b=some o):b∉X.fs:=fun hb=>by
 have:=(ok.tZ.mem hb).1
 rw[e] at this;cases this
theorem Inv.bs(I:Inv X c_ σ H s):∀b o,X.base.get? b=some o→s.heap.get? b=some o∧H b=none:=fun b o e=>
 ⟨I.base.keep b o (I.ok.bs b o e).1 (I.ok.bs b o e).2 (I.ok.Lj e) (I.ok.q_ b o e),I.base.free b o (I.ok.bs b o e).1 (I.ok.bs b o e).2 (I.ok.q_ b o e)⟩
theorem Inv.bk(I:Inv X c_ σ H s):∀b o,X.base.get? b=some o→s.heap.get? b=some o:=fun b o e=>(I.bs b o e).1
theorem Inv.mod(I:Inv X c_ σ H s):Mod X.K X.mg X.base:=I.ok.mod
theorem Inv.xo(I:Inv X c_ σ H s):X.K.In s.heap:=I.ok.mod.P8.keeps I.bk
theorem Inv.lt(I:Inv X c_ σ H s):X.env.locals<s.heap.objs.size:=let ⟨_,hn,_⟩:=I.loc;hn.lt
theorem Inv.sz(I:Inv X c_ σ H s):X.s₀.heap.objs.size≤s.heap.objs.size:=aac I.ok.above (Nat.le_of_lt I.lt)
theorem Inv.NJ(I:Inv X c_ σ H s){a:Addr}(h:s.heap.objs.size≤a):a∉X.fs:=fun hb=>by
 obtain⟨_,o,ho,_⟩:=I.ok.tZ.mem hb
 exact absurd (aas (aar ho) (aac I.sz h)) (aa4 _)
theorem Inv.NK(I:Inv X c_ σ H s):∀x c,X.env.cells.lookup x=some c→c≠X.env.locals:=fun x c e z=>by
 obtain⟨v,o,ho,hd⟩:=I.cell x c e
 obtain⟨m,⟨o',es,ep,qF,VM,_⟩,_⟩:=I.loc
 rw[z,qF] at ho;cases ho;rw[VM] at hd;cases hd
theorem Inv.tZ(I:Inv X c_ σ H s):s.heap.FunFrames X.base X.outer:=by
 have all:∀(l:List Env),(∀b∈tH l,b∈X.fs)→X.s₀.heap.FunFrames X.base l→s.heap.FunFrames X.base l:=by
  intro l
  induction l with
  | nil=>intro _ _;trivial
  | cons env r ih=>
   intro hs hl
   obtain⟨hk,⟨L,o,hf,hn,ho,hd⟩,hr⟩:=hl
   have hL:L∈X.fs:=hs L (by unfold tH;rw[abu,hf];exact aav)
   obtain⟨sl,e⟩:=I.base.slot L o ho (I.ok.Li L hL) hL fun z=>I.ok.G9 L z hL
   exact⟨hk,⟨L,_,hf,hn,e,hd⟩,ih (fun b hb=>hs b (by unfold tH;rw[abu,hf];exact aaj _ hb)) hr⟩
 exact all X.outer (fun _ hb=>hb) I.ok.tZ
theorem Inv.stack(I:Inv X c_ σ H s):s.heap.FunFrames X.base X.stack:=by
 rcases I.ok.P9 with e|⟨e,hf⟩
 ·rw[e];exact I.tZ
 ·rw[e]
  obtain⟨m,hn,_⟩:=I.loc
  refine .cons (by rw[I.ok.kind];decide) hf hn ?_ I.tZ
  exact Heap.get?_none_of_le (aac I.ok.IB I.ok.above)
theorem Inv.qa(I:Inv X c_ σ H s):∀b∈tH X.stack,b∈X.env.locals::X.fs:=fun b hb=>by
 rcases I.ok.P9 with e|⟨e,hf⟩
 ·rw[e] at hb;exact aaj _ hb
 ·rw[e] at hb
  unfold tH at hb
  rw[abu,hf] at hb
  exact hb
theorem Inv.yO(I:Inv X c_ σ H s):∀b∈tH X.stack,H b=none:=fun b hb=>by
 rcases Wg.mp (I.qa b hb) with e|hb
 ·rw[e];exact I.free
 ·obtain⟨_,o,ho,_⟩:=I.ok.tZ.mem hb
  exact I.base.free b o ho (I.ok.Li b hb) fun z=>I.ok.G9 b z hb
theorem Inv.step{g':Array GenState}{t':Nat}{d':Drawn}{ch:List Addr}(I:Inv X c_ σ H s)
  (K6:∀b∈ch,(b∈X.ex∨X.s₀.heap.objs.size≤b)∧b≠X.env.locals∧(∀x c,X.env.cells.lookup x=some c→c≠b)∧∀p∈X.pn++c_,p.1≠b)
  (keep:∀b o,b≠X.env.locals→b∉X.fs→b∉ch→s.heap.get? b=some o→H b=none→h'.get? b=some o)
  (slot:∀b o,b≠X.env.locals→b∈X.fs→b∉ch→s.heap.get? b=some o→H b=none→∃sl,h'.get? b=some {o with slots:=sl}) (free:∀b o,b∉ch→s.heap.get? b=some o→H b=none→H' b=none)
  (there:∀b o,b∉ch→s.heap.get? b=some o→∃o',h'.get? b=some o')
  (q9:∀b xs,H b=some (.tup xs)→H' b=some (.tup xs)) (uI:∀b o u,H b=some (.nc o u)→H' b=some (.nc o u)) (yt:∀b ps,H b=some (.K4 ps)→∃more,H' b=some (.K4 (ps++more)))
  (ns:∀m,s.heap.Ns X.env.locals m→h'.Ns X.env.locals m) (iG:qO X.prog X.w H' h') (hg:AllBare g') :
  Inv X c_ σ H' {s with heap:=h',gens:=g',drawn:=d',toks:=t'}:=by
 have YQ:∀b o,X.s₀.heap.get? b=some o→b≠X.env.locals:=fun b o e=>aaN (aas (aar e) I.ok.above)
 have T7:∀b o,X.s₀.heap.get? b=some o→b∉X.ex→b∉ch:=fun b o e hx hb=>by
  rcases(K6 b hb).1 with z|z
  ·exact hx z
  ·exact absurd (aas (aar e) z) (aa4 _)
 have cellK:∀x c,X.env.cells.lookup x=some c→∀v,s.heap.IsCell c v→h'.IsCell c v:=fun x c e v ⟨o,ho,hd⟩=>by
  have RU:c∉ch:=fun z=>(K6 c z).2.2.1 x c e rfl
  by_cases hc:c∈X.fs
  ·obtain⟨sl,q⟩:=slot c o (I.NK x c e) hc RU ho (I.nF x c e)
   exact⟨_,q,hd⟩
  ·exact⟨o,keep c o (I.NK x c e) hc RU ho (I.nF x c e),hd⟩
 refine⟨I.ok,I.os,hg,⟨fun b o e n hb hx=>?_,fun b o e n hb hx=>?_,fun b o e n hx=>?_,fun b o e hx=>?_,fun b xs e=>q9 b xs (I.base.q9 b xs e),fun b o xs e=>uI b o xs (I.base.uI b o xs e),fun b ps e=>?_⟩,?_,fun x c e=>?_,?_,fun x c e=>?_,fun p hp=>?_,iG,I.len⟩
 ·exact keep b o (YQ b o e) hb (T7 b o e hx) (I.base.keep b o e n hb hx) (I.base.free b o e n hx)
 ·obtain⟨sl,e1⟩:=I.base.slot b o e n hb hx
  obtain⟨sl',e2⟩:=slot b _ (YQ b o e) hb (T7 b o e hx) e1 (I.base.free b o e n hx)
  exact⟨sl',e2⟩
 ·obtain⟨o',e1⟩:=I.base.there b o e hx
  exact free b o' (T7 b o e hx) e1 (I.base.free b o e n hx)
 ·obtain⟨o',e1⟩:=I.base.there b o e hx
  exact there b o' (T7 b o e hx) e1
 ·obtain⟨m1,e1⟩:=I.base.yt b ps e
  obtain⟨m2,e2⟩:=yt b _ e1
  exact⟨m1++m2,by rw[e2,Array.append_assoc]⟩
 ·obtain⟨m,hn,hl⟩:=I.loc
  refine⟨m,ns m hn,fun i x v e1 e2 e3=>?_⟩
  obtain⟨u,r,l⟩:=hl i x v e1 e2 e3
  refine⟨u,r,?_⟩
  rcases l with l|⟨k,c,e,z⟩
  ·exact .inl l
  ·exact .inr ⟨k,c,e,cellK x c e _ z⟩
 ·obtain⟨v,z⟩:=I.cell x c e
  exact⟨v,cellK x c e v z⟩
 ·obtain⟨m,⟨o,_,_,ho,_⟩,_⟩:=I.loc
  exact free _ o (fun z=>(K6 _ z).2.1 rfl) ho I.free
 ·obtain⟨v,o,ho,hd⟩:=I.cell x c e
  exact free c o (fun z=>(K6 c z).2.2.1 x c e rfl) ho (I.nF x c e)
 ·obtain⟨e,n,ne,nf,d⟩:=I.pin p hp
  have RU:p.1∉ch:=fun z=>(K6 p.1 z).2.2.2 p hp rfl
  exact⟨keep p.1 p.2 ne nf RU e n,free p.1 p.2 RU e n,ne,nf,d⟩
theorem Inv.un{t':Nat}(I:Inv X c_ σ H s)(u:Un X.fs [] H H' s.heap h')(iG:qO X.prog X.w H' h'):Inv X c_ σ H' {s with heap:=h',toks:=t'}:=by
 obtain⟨m,⟨o,es,ep,ho,r⟩,_⟩:=id I.loc
 obtain⟨sl,hL⟩:=u.any ho I.free (by simp)
 exact I.step (g':=s.gens) (d':=s.drawn) (ch:=[]) (fun _ z=>nomatch z) (fun b o _ hb _ e n=>u.keep b o e n hb (by simp)) (fun b o _ hb _ e n=>u.slot b o e n hb (by simp)) (fun b o _ e n=>u.free b o e n (by simp)) (fun b o _ e=>u.there b o e (by simp)) u.q9 u.uI u.yt (fun m' hm=>by
  obtain⟨o',Qh,Na,qF,r'⟩:=hm
  rw[ho] at qF;cases qF
  exact⟨_,Qh,Na,hL,r'⟩) iG I.bare
theorem Inv.call{g':Array GenState}{t':Nat}{d':Drawn}{ch:List Addr}(I:Inv X c_ σ H s)(u:Un (tH X.stack) ch H H' s.heap h')(iG:qO X.prog X.w H' h')(hg:AllBare g')
  (K6:∀b∈ch,(b∈X.ex∨X.s₀.heap.objs.size≤b)∧b≠X.env.locals∧(∀x c,X.env.cells.lookup x=some c→c≠b)∧∀p∈X.pn++c_,p.1≠b) :
  Inv X c_ σ H' {s with heap:=h',gens:=g',drawn:=d',toks:=t'}:=by
 obtain⟨m,⟨o,es,ep,ho,r⟩,_⟩:=id I.loc
 obtain⟨sl,hL⟩:=u.any ho I.free fun z=>(K6 _ z).2.1 rfl
 exact I.step (ch:=ch) K6 (fun b o hL hb hc e n=>u.keep b o e n (fun z=>(Wg.mp (I.qa b z)).elim hL hb) hc) (fun b o _ _ hc e n=>u.any e n hc) (fun b o hc e n=>u.free b o e n hc) (fun b o hc e=>u.there b o e hc) u.q9 u.uI u.yt (fun m' hm=>by
  obtain⟨o',Qh,Na,qF,r'⟩:=hm
  rw[ho] at qF;cases qF
  exact⟨_,Qh,Na,hL,r'⟩) iG hg
theorem Inv.turned{t':Nat}{it:Addr}(I:Inv X c_ σ H s)(k:∀b o,b≠it→s.heap.get? b=some o→h'.get? b=some o)(hn:H it=none)(hL:it≠X.env.locals)
  (h1:it∈X.ex∨X.s₀.heap.objs.size≤it) (h2:∀x c,X.env.cells.lookup x=some c→c≠it) (h3:∀p∈X.pn++c_,p.1≠it):Inv X c_ σ H {s with heap:=h',toks:=t'}:=by
 have YR:∀b u,H b=some u→b≠it:=fun b u e z=>by rw[z,hn] at e;cases e
 refine I.step (g':=s.gens) (d':=s.drawn) (ch:=[it]) (fun b hb=>?_) (fun b o _ _ hc e _=>k b o (fun z=>hc (by simp[z])) e) (fun b o _ _ hc e _=>⟨o.slots,k b o (fun z=>hc (by simp[z])) e⟩) (fun _ _ _ _ n=>n)
  (fun b o hc e=>⟨o,k b o (fun z=>hc (by simp[z])) e⟩) (fun _ _ e=>e) (fun _ _ _ e=>e) (fun b ps e=>⟨#[],by rw[e];simp⟩) (fun m hm=>?_) (fun b u e=>?_) I.bare
 ·have e:b=it:=by simpa using hb
  subst e
  exact⟨h1,hL,h2,h3⟩
 ·obtain⟨o,es,ep,ho,r⟩:=hm
  exact⟨o,es,ep,k _ o (abF hL) ho,r⟩
 ·refine(I.iG b u e).y4 (fun c v hc q=>k c v ?_ q) (fun _ q=>q) fun _ _ q=>q
  rcases hc with z|z
  ·rw[z];exact YR b u e
  ·exact YR c _ z
theorem Inv.tok(I:Inv X c_ σ H s)(t:Nat):Inv X c_ σ H {s with toks:=t}:=I.un (h':=s.heap) (t':=t) Un.refl I.iG
theorem Inv.kept{t':Nat}(I:Inv X c_ σ H s)(k:∀b u,s.heap.get? b=some u→h'.get? b=some u):Inv X c_ σ H {s with heap:=h',toks:=t'}:=I.un (Un.kept k) (I.iG.kept k)
theorem Inv.laid{a:Addr}{o:HO}{t':Nat}(I:Inv X c_ σ H s)(k:∀b u,s.heap.get? b=some u→h'.get? b=some u)(hp:s.heap.objs.size≤a)(new:i3 X.prog X.w (upd H a o) h' a o) :
 Inv X c_ σ (upd H a o) {s with heap:=h',toks:=t'}:=I.un (Un.laid k hp (I.iG.fresh hp)) (I.iG.laid k hp new)
theorem Inv.write{x e:Addr}{o:HO}{t':Nat}(I:Inv X c_ σ H s)(mu:MQ (H x))(he:e=x∨H e=some (.own x))(k:∀b u,b≠e→s.heap.get? b=some u→h'.get? b=some u)(Kw:∃u,h'.get? e=some u)
 (new:i3 X.prog X.w (upd H x o) h' x o):Inv X c_ σ (upd H x o) {s with heap:=h',toks:=t'}:=I.un (Un.write mu he k Kw) (I.iG.write mu he k Kw new)
theorem Inv.sQ{Nb:Qqz}(I:Inv X c_ σ H s)(h:∀p∈Nb,s.heap.get? p.1=some p.2∧H p.1=none∧p.1≠X.env.locals∧p.1∉X.fs∧∀v,p.2.data≠.cell v):Inv X Nb σ H s:=
 ⟨I.ok,I.os,I.bare,I.base,I.loc,I.cell,I.free,I.nF,fun p hp=>(Wl.mp hp).elim (fun z=>I.pin p (YI _ z)) (h p),I.iG,I.len⟩
theorem Dl{N:List Str}(hN:N.Nodup){i j:Nat}{x:Str}(a:N[i]?=some x)(b:N[j]?=some x):i=j:=by
 obtain⟨h1,e1⟩:=List.getElem?_eq_some_iff.mp a
 obtain⟨h2,e2⟩:=List.getElem?_eq_some_iff.mp b
 exact(List.getElem_inj hN).mp (e1.trans e2.symm)
theorem vW{M:Model}{A:Around}{E:Qqq}{i:Nat}{x:Str}{v:V}{u:Value}{Q:Unit→Shared→Prop}(I:Inv X c_ σ H s)(hN:X.N.Nodup)(hi:X.N[i]?=some x)(hx:Loc X.env.scope x)(r:RelV v u)
  (h:∀s',Inv X c_ (σ.set i (some v)) H s'→(∃a,Heap.SameBut a s.heap s'.heap∧(a=X.env.locals∨X.env.cells.lookup x=some a))→Q () s') (hf:X.fn x=true∨X.env.scope.names.lookup x=some .local:=by first|exact .inl rfl|exact .inr rfl|assumption):wpAny M A (storeName X.env x u) Q E s:=by
 obtain⟨m,hn,hl⟩:=id I.loc
 have VN:(X.env.scope.kind ==.class||(X.env.scope.kind ==.module&&X.env.locals != X.env.globals))=false:=by rw[I.ok.kind];rfl
 have YS:i<σ.length:=by rw[I.len];exact(List.getElem?_eq_some_iff.mp hi).1
 have NK:=I.NK
 have tracked:∀{a:Addr} {h':Heap},(∃o,s.heap.get? a=some o∧H a=none)→Heap.SameBut a s.heap h'→qO X.prog X.w H h':=fun{a h'} ha hs b ob e=>by
  obtain⟨_,_,yp⟩:=ha
  refine(I.iG b ob e).y4 (fun c w' hc q=>(hs.2 c ?_).trans q) (fun _ q=>q) fun _ _ q=>q
  rintro rfl
  rcases hc with rfl|hc
  ·rw[yp] at e;cases e
  ·rw[yp] at hc;cases hc
 rcases hx with hk|hk
 ·refine wpAny_storeName_local hk hn (fun h' Nc hs=>?_) VN
  obtain⟨oL,_,_,hoL,_⟩:=id hn
  refine h _ ⟨I.ok,I.os,I.bare,⟨fun b o e n hb hx=>?_,fun b o e n hb hx=>?_,I.base.free,fun b o e hx=>?_,I.base.q9,I.base.uI,I.base.yt⟩,⟨_,Nc,fun j y v' e1 e2 e3=>?_⟩,fun y c e=>?_,I.free,I.nF,fun p hp=>?_,tracked ⟨oL,hoL,I.free⟩ hs,by simpa using I.len⟩ ⟨_,hs,.inl rfl⟩
  ·exact(hs.2 b (aaN (aas (aar e) I.ok.above))).trans (I.base.keep b o e n hb hx)
  ·obtain⟨sl,e1⟩:=I.base.slot b o e n hb hx
   exact⟨sl,(hs.2 b (aaN (aas (aar e) I.ok.above))).trans e1⟩
  ·obtain⟨o',e1⟩:=I.base.there b o e hx
   exact⟨o',(hs.2 b (aaN (aas (aar e) I.ok.above))).trans e1⟩
  ·by_cases hj:j=i
   ·subst hj
    rw[hi] at e1;cases e1
    rw[abc YS] at e2
    cases e2
    exact⟨u,r,.inl ⟨hk,by simp⟩⟩
   ·rw[abn (abF hj)] at e2
    obtain⟨u',r',q⟩:=hl j y v' e1 e2 e3
    refine⟨u',r',?_⟩
    rcases q with⟨k,e⟩|⟨k,c,e,z⟩
    ·refine .inl ⟨k,?_⟩
     have:y≠x:=fun e=>hj (Dl hN e1 (e▸hi))
     simp[this,e]
    ·exact .inr ⟨k,c,e,z.sameBut hs (NK y c e)⟩
  ·obtain⟨w',z⟩:=I.cell y c e
   exact⟨w',z.sameBut hs (NK y c e)⟩
  ·obtain⟨e,n,ne,nf,d⟩:=I.pin p hp
   exact⟨(hs.2 p.1 ne).trans e,n,ne,nf,d⟩
 ·have Nd:X.fn x=true:=by
   rcases hf with z|z
   ·exact z
   ·rw[z] at hk;cases hk
  obtain⟨c,hc⟩:=I.ok.has x (.inl hk)
  obtain⟨w',z⟩:=I.cell x c hc
  refine wpAny_storeName_cell I.ok.kind hk hc z (fun h' BL hs=>?_)
  obtain⟨oc,YT,VO⟩:=id z
  refine h {s with heap:=h'} ⟨I.ok,I.os,I.bare,⟨fun b o e n hb hx=>?_,fun b o e n hb hx=>?_,I.base.free,fun b o e hx=>?_,I.base.q9,I.base.uI,I.base.yt⟩,⟨m,hn.sameBut hs (abF (NK x c hc)),fun j y v' e1 e2 e3=>?_⟩,fun y c' e=>?_,I.free,I.nF,fun p hp=>?_,tracked ⟨oc,YT,I.nF x c hc⟩ hs,by simpa using I.len⟩ ⟨c,hs,.inr hc⟩
  ·exact(hs.2 b (aaN (aas (aar e) (I.ok.NI x c Nd hc)))).trans (I.base.keep b o e n hb hx)
  ·obtain⟨sl,e1⟩:=I.base.slot b o e n hb hx
   exact⟨sl,(hs.2 b (aaN (aas (aar e) (I.ok.NI x c Nd hc)))).trans e1⟩
  ·obtain⟨o',e1⟩:=I.base.there b o e hx
   exact⟨o',(hs.2 b (aaN (aas (aar e) (I.ok.NI x c Nd hc)))).trans e1⟩
  ·by_cases hj:j=i
   ·subst hj
    rw[hi] at e1;cases e1
    rw[abc YS] at e2
    cases e2
    exact⟨u,r,.inr ⟨.inl hk,c,hc,BL⟩⟩
   ·rw[abn (abF hj)] at e2
    obtain⟨u',r',q⟩:=hl j y v' e1 e2 e3
    refine⟨u',r',?_⟩
    rcases q with q|⟨k,c',e,z'⟩
    ·exact .inl q
    ·refine .inr ⟨k,c',e,z'.sameBut hs ?_⟩
     rintro rfl
     exact hj (Dl hN e1 (I.ok.inj _ _ _ e hc▸hi))
  ·by_cases RV:c'=c
   ·subst RV;exact⟨_,BL⟩
   ·obtain⟨w2,z2⟩:=I.cell y c' e
    exact⟨w2,z2.sameBut hs RV⟩
  ·obtain⟨e,n,ne,nf,d⟩:=I.pin p hp
   refine⟨(hs.2 p.1 ?_).trans e,n,ne,nf,d⟩
   intro q
   rw[q,YT] at e
   have q':oc=p.2:=aaz e
   exact d w' (by rw[←q'];exact VO)
theorem Dm{M:Model}{A:Around}{E:Qqq}{i:Nat}{x:Str}{v:V}{u:Value}{Q:Unit→Shared→Prop}(I:Inv X c_ σ H s)(hN:X.N.Nodup)(hi:X.N[i]?=some x)(hx:Loc X.env.scope x)(r:RelV v u)
  (h:∀s',Inv X c_ (σ.set i (some v)) H s'→Q () s') (hf:X.fn x=true∨X.env.scope.names.lookup x=some .local:=by first|exact .inl rfl|exact .inr rfl|assumption):wpAny M A (storeName X.env x u) Q E s:=
 vW I hN hi hx r (fun s' I' _=>h s' I') hf
theorem Inv.QG{s':Shared}{ch:List Addr}(I:Inv X c_ σ H s)(ho:s'.os=s.os)(u:Un (tH X.stack) ch H H' s.heap s'.heap)(iG:qO X.prog X.w H' s'.heap)(hg:AllBare s'.gens)
  (K6:∀b∈ch,(b∈X.ex∨X.s₀.heap.objs.size≤b)∧b≠X.env.locals∧(∀x c,X.env.cells.lookup x=some c→c≠b)∧∀p∈X.pn++c_,p.1≠b):Inv X c_ σ H' s':=by
 obtain⟨h',g',d',t',o'⟩:=s'
 have e:o'=s.os:=ho
 subst e
 exact I.call (g':=g') (t':=t') (d':=d') u iG hg K6
end
abbrev XK:=Value→Option Addr→Hp→Prop
abbrev St:=List (Option V)
abbrev VK:=V→Hp→Prop
abbrev TE:=St→Hp→VK→Prop
abbrev TT:=St→Hp→(Bool→Hp→Prop)→Prop
abbrev TA:=St→Hp→(List V→Hp→Prop)→Prop
structure Ends where
 nx:St→Hp→Prop
 rt:VK
 bk:St→Hp→Prop:=fun _ _=>False
 ct:St→Hp→Prop:=fun _ _=>False
abbrev TS:=Ends→St→Hp→Prop
def EP(X:Cx)(c_:Qqz)(σ:St)(Q:VK)(u:Value)(s':Shared):Prop:=∃v H',Inv X c_ σ H' s'∧RelV v u∧Q v H'
def TP(X:Cx)(c_:Qqz)(σ:St)(Q:Bool→Hp→Prop)(b:Bool)(s':Shared):Prop:=∃H',Inv X c_ σ H' s'∧Q b H'
def AP(X:Cx)(c_:Qqz)(σ:St)(Q:List V→Hp→Prop)(us:List Value)(s':Shared):Prop:=∃vs H',Inv X c_ σ H' s'∧Vals vs us∧Q vs H'
def SP(X:Cx)(c_:Qqz)(D:Ends)(f:Flow)(s':Shared):Prop:=
 match f with
 | .next=>∃σ' H',Inv X c_ σ' H' s'∧D.nx σ' H'
 | .brk=>∃σ' H',Inv X c_ σ' H' s'∧D.bk σ' H'
 | .cont=>∃σ' H',Inv X c_ σ' H' s'∧D.ct σ' H'
 | .ret u=>∃v σ' H',Inv X c_ σ' H' s'∧RelV v u∧D.rt v H'
def PE(X:Cx)(e:Expr)(t:TE):Prop:=
 ∀(c_:Qqz)(s:Shared)(σ:St)(H:Hp)(Q:VK),Inv X c_ σ H s→t σ H Q→wpAny (model X.prog X.w) X.A (eval e X.env) (EP X c_ σ Q) X.xe s
def PT(X:Cx)(e:Expr)(t:TT):Prop:=
 ∀(c_:Qqz)(s:Shared)(σ:St)(H:Hp)(Q:Bool→Hp→Prop),Inv X c_ σ H s→t σ H Q→wpAny (model X.prog X.w) X.A (isTrue e X.env (eval e X.env)) (TP X c_ σ Q) X.xe s
def PW(X:Cx)(e:Expr)(t:TT):Prop:=
 ∀(whole:Sem Value)(c_:Qqz)(s:Shared)(σ:St)(H:Hp)(Q:Bool→Hp→Prop),Inv X c_ σ H s→t σ H Q→wpAny (model X.prog X.w) X.A (isTrue e X.env whole) (TP X c_ σ Q) X.xe s
theorem PW.pt{X:Cx}{e:Expr}{t:TT}(h:PW X e t):PT X e t:=h _
def PA(X:Cx)(es:List Expr)(t:TA):Prop:=
 ∀(pos:Pos)(c_:Qqz)(s:Shared)(σ:St)(H:Hp)(Q:List V→Hp→Prop),Inv X c_ σ H s→t σ H Q→wpAny (model X.prog X.w) X.A (spliced (backTo pos (starEach es X.env))) (AP X c_ σ Q) X.xe s
def PS(X:Cx)(st:Stmt)(t:TS):Prop:=
 ∀(c_:Qqz)(s:Shared)(σ:St)(H:Hp)(D:Ends),Inv X c_ σ H s→t D σ H→wpAny (model X.prog X.w) X.A (exec st X.env) (SP X c_ D) X.xe s
def EW(X:Cx)(st:List Stmt)(t:TS):Prop:=
 ∀(c_:Qqz)(s:Shared)(σ:St)(H:Hp)(D:Ends),Inv X c_ σ H s→t D σ H→wpAny (model X.prog X.w) X.A (execs st X.env) (SP X c_ D) X.xe s
theorem iS{α:Type}{t:Sem α}{Q Q':α→Shared→Prop}{M:Model}{A:Around}{E:Qqq}{s:Shared}(h:wpAny M A t Q E s)(hQ:∀a s,Q a s→Q' a s):wpAny M A t Q' E s:=abo h hQ fun _ _ x=>x
section
variable{X:Cx}
def QH(i:Nat):TE:=fun σ H Q=>∃v,σ[i]?=some (some v)∧Q v H
def tC(v:V):TE:=fun _ H Q=>Q v H
theorem NL{i:Nat}{x:Str}{pos:Pos}(hN:X.N[i]?=some x)(hv:UU X.env.scope x)(hd:(x ==("__debug__":Str))=false:=by decide)(BM:(x ==("__classdict__":Str))=false:=by decide):PE X (.Name x pos) (QH i):=by
 intro c_ s σ H Q I h
 obtain⟨v,e,h⟩:=h
 obtain⟨m,hn,hl⟩:=I.loc
 obtain⟨u,r,l⟩:=hl i x v hN e hv
 have fin:EP X c_ σ Q u s:=⟨v,H,I,r,h⟩
 rcases l with⟨hk,hm⟩|⟨hk,c,hc,BN⟩
 ·exact wpAny_Name (wpAny_loadName_local I.ok.kind hk hn hm fin) hd
 ·rcases hk with hk|hk
  ·exact wpAny_Name (wpAny_loadName_cell I.ok.kind hk hc BN fin) hd
  ·exact wpAny_Name (wpAny_loadName_free I.ok.kind hk hc BN fin BM) hd
theorem gg{i j pos}:PE X (.Constant (.int i) j pos) (tC (.int i)):=fun _ _ _ H _ I h=>wpAny_Constant_int ⟨.int i,H,I.tok _,⟨_,rfl⟩,h⟩
theorem kI{b j pos}:PE X (.Constant (.bool b) j pos) (tC (.bl b)):=fun _ _ _ H _ I h=>Constant_bool ⟨.bl b,H,I,rfl,h⟩
theorem t_{j pos}:PE X (.Constant .none j pos) (tC .jl):=fun _ _ _ H _ I h=>Constant_none ⟨.jl,H,I,rfl,h⟩
theorem i6{x j pos}:PE X (.Constant (.str x) j pos) (tC (.str x)):=fun _ _ _ H _ I h=>Calls.Constant_str ⟨.str x,H,I.tok _,⟨_,rfl⟩,h⟩
def Gl(X:Cx)(x:Str):Prop:=X.env.kindOf x=some .globalImplicit
theorem uJ{E:Qqq}{c_:Qqz}{s:Shared}{σ:St}{H:Hp}{x:Str}{u:Value}{pos:Pos}{Q:Qqq}(I:Inv X c_ σ H s)(hg:Gl X x)(hm:X.mg x=some u)(h:Q u s)
  (hd:(x ==("__debug__":Str))=false:=by decide):wpAny (model X.prog X.w) X.A (eval (.Name x pos) X.env) Q E s:=
 Calls.Name_function_global I.ok.kind hg (Calls.loadGlobal_global (by rw[I.ok.glob];exact I.mod.glob.keeps I.bk) hm h) hd
theorem oX{E:Qqq}{c_:Qqz}{s:Shared}{σ:St}{H:Hp}{x:Str}{u:Value}{pos:Pos}{Q:Qqq}(I:Inv X c_ σ H s)(hg:Gl X x)(hm:X.mg x=none)(hv:bootBuiltins x=some u)(h:Q u s)
  (hn:x≠"__name__":=by decide) (hd:(x ==("__debug__":Str))=false:=by decide):wpAny (model X.prog X.w) X.A (eval (.Name x pos) X.env) Q E s:=by
 obtain⟨mb,h1,h2⟩:=I.mod.blt
 exact Calls.Name_function_global I.ok.kind hg (Calls.loadGlobal_builtin (by rw[I.ok.glob];exact I.mod.glob.keeps I.bk) hm (by rw[I.ok.blt];exact h1.keeps I.bk) ((h2 x hn).trans hv) h) hd
theorem BS{x:Str}{v:V}{u:Value}{pos:Pos}(hg:Gl X x)(hm:X.mg x=some u)(r:RelV v u)(hd:(x ==("__debug__":Str))=false:=by decide):PE X (.Name x pos) (tC v):=
 fun _ _ _ H _ I h=>uJ I hg hm ⟨v,H,I,r,h⟩ hd
theorem mv{x:Str}{v:V}{u:Value}{pos:Pos}(hg:Gl X x)(hm:X.mg x=none)(hv:bootBuiltins x=some u)(r:RelV v u)(hn:x≠"__name__":=by decide)(hd:(x ==("__debug__":Str))=false:=by decide):PE X (.Name x pos) (tC v):=
 fun _ _ _ H _ I h=>oX I hg hm hv ⟨v,H,I,r,h⟩ hn hd
variable{a b:Expr}{ta tb:TE}{pos:Pos}
def PC(X:Cx)(op:CmpOp)(a b:Expr)(t:TE):Prop:=
 ∀(c_:Qqz)(s:Shared)(σ:St)(H:Hp)(Q:VK),Inv X c_ σ H s→t σ H Q→
  wpAny (model X.prog X.w) X.A (eval a X.env) (fun v s₁=>wpAny (model X.prog X.w) X.A (eval b X.env) (fun u s₂=>wpAny (model X.prog X.w) X.A (compareOp op v u) (EP X c_ σ Q) X.xe s₂) X.xe s₁) X.xe s
theorem Dq(b:Expr){op:CmpOp}(h:op≠.In)(h2:op≠.NotIn):behindInMarks op b=false:=by
 have e1:(op ==CmpOp.In)=false:=by cases op<;>first|rfl|exact absurd rfl h
 have e2:(op ==CmpOp.NotIn)=false:=by cases op<;>first|rfl|exact absurd rfl h2
 cases b<;>simp[behindInMarks,e1,e2]
def QI(ta:TE):TE:=fun σ H Q=>ta σ H fun x H1=>Q (.bl (!decide (x=.jl))) H1
theorem RelV.IC{x:V}{v:Value}(r:RelV x v):(v ==Value.none)=decide (x=.jl):=by
 cases x with
 | jl=>cases r;rfl
 | bl _=>cases r;rfl
 | int _=>obtain⟨t,rfl⟩:=r;rfl
 | str _=>obtain⟨t,rfl⟩:=r;rfl
 | E4 _=>obtain⟨t,rfl⟩:=r;rfl
 | MP _=>obtain⟨t,rfl⟩:=r;rfl
 | ref _=>cases r;rfl
 | ty _=>cases r;rfl
theorem sR{j pos'}(ha:PE X a ta):PC X .IsNot a (.Constant .none j pos') (QI ta):=by
 intro c_ s σ H Q I h
 refine iS (ha c_ s σ H _ I h) fun v s1 ⟨x,H1,I1,r1,q1⟩=>?_
 exact Constant_none (isnot_none_gen ⟨.bl _,H1,I1,by rw[r1.IC];rfl,q1⟩)
def tB(t:TE):TT:=fun σ H Q=>t σ H fun x H1=>∃c,x=.bl c∧Q c H1
theorem NM{op:CmpOp}{t:TE}(h:PC X op a b t)(h1:behindInMarks op b=false:=by first|exact Dq _ (by decide) (by decide)|rfl):PE X (.Compare a [op] [b] pos) t:=fun c_ s σ H Q I hw=>wpAny_Compare1 (h c_ s σ H Q I hw) h1
theorem jv{op:CmpOp}{t:TE}(h:PC X op a b t)(h1:behindInMarks op b=false:=by first|exact Dq _ (by decide) (by decide)|rfl):PT X (.Compare a [op] [b] pos) (tB t):=by
 intro c_ s σ H Q I hw
 refine wpAny_isTrue_Compare1 (iS (h c_ s σ H _ I hw) fun v s1 h1=>iS h1 fun u s2 h2=>iS h2 fun c s3 ⟨x,H1,I1,r1,q1⟩=>?_) h1
 obtain⟨d,rfl,q⟩:=q1
 cases r1
 exact abv ⟨H1,I1,q⟩
theorem kK{e:Expr}{t:TE}(h:PE X e t)(he:∀whole,isTrue e X.env whole=(do let v ←whole;standAt e.pos;holding [v] (truthy v)):=by intro _;rfl):PT X e (tB t):=by
 intro c_ s σ H Q I hw
 refine isTrue_plain (iS (h c_ s σ H _ I hw) fun v s1 ⟨x,H1,I1,r1,q1⟩=>?_) (he _)
 obtain⟨d,rfl,q⟩:=q1
 cases r1
 exact abv ⟨H1,I1,q⟩
variable{tA T8:TT}{rest:List Expr}
def UW(t u:TT):TT:=fun σ H Q=>t σ H fun c H1=>if c=true then u σ H1 Q else Q false H1
def tOr(t u:TT):TT:=fun σ H Q=>t σ H fun c H1=>if c=true then Q true H1 else u σ H1 Q
def UX(t:TT):TT:=fun σ H Q=>t σ H fun c H1=>Q (!c) H1
theorem pw_and1(ha:PT X a tA):PW X (.BoolOp .And [a] pos) tA:=by
 intro wh c_ s σ H Q I h
 refine isTrue_and (iS (ha c_ s σ H Q I h) fun c s1 e=>?_)
 cases c with
 | true=>exact isTrue_and_nil e
 | false=>exact e
theorem pw_or1(ha:PT X a tA):PW X (.BoolOp .Or [a] pos) tA:=by
 intro wh c_ s σ H Q I h
 refine isTrue_or (iS (ha c_ s σ H Q I h) fun c s1 e=>?_)
 cases c with
 | false=>exact isTrue_or_nil e
 | true=>exact e
theorem pw_and(ha:PT X a tA)(hb:PW X (.BoolOp .And (b::rest) pos) T8):PW X (.BoolOp .And (a::b::rest) pos) (UW tA T8):=by
 intro wh c_ s σ H Q I h
 refine isTrue_and (iS (ha c_ s σ H _ I h) fun c s1 ⟨H1,I1,q1⟩=>?_)
 cases c with
 | true=>exact hb wh c_ s1 σ H1 Q I1 q1
 | false=>exact⟨H1,I1,q1⟩
theorem pw_or(ha:PT X a tA)(hb:PW X (.BoolOp .Or (b::rest) pos) T8):PW X (.BoolOp .Or (a::b::rest) pos) (tOr tA T8):=by
 intro wh c_ s σ H Q I h
 refine isTrue_or (iS (ha c_ s σ H _ I h) fun c s1 ⟨H1,I1,q1⟩=>?_)
 cases c with
 | true=>exact⟨H1,I1,q1⟩
 | false=>exact hb wh c_ s1 σ H1 Q I1 q1
theorem ke(ha:PT X a tA):PT X (.UnaryOp .Not a pos) (UX tA):=by
 intro c_ s σ H Q I h
 exact isTrue_not (ha c_ s σ H (fun c H1=>Q (!c) H1) I h)
def QJ(ta tb:TE):TE:=fun σ H Q=>ta σ H fun x H1=>∃c,x=.bl c∧if c=true then tb σ H1 Q else Q (.bl false) H1
def QK(ta:TE):TE:=fun σ H Q=>ta σ H fun x H1=>∃c,x=.bl c∧Q (.bl (!c)) H1
theorem NN{op}{t:TE}(h:PE X a t):PE X (.BoolOp op [a] pos) t:=fun c_ s σ H Q I hw=>BoolOp_one (h c_ s σ H Q I hw)
theorem NO(ha:PE X a ta)(hb:PE X (.BoolOp .And (b::rest) pos) tb):PE X (.BoolOp .And (a::b::rest) pos) (QJ ta tb):=by
 intro c_ s σ H Q I h
 refine BoolOp_and (iS (ha c_ s σ H _ I h) fun v s1 ⟨x,H1,I1,r1,q1⟩=>?_)
 obtain⟨c,rfl,q1⟩:=q1
 cases r1
 refine abv ?_
 cases c with
 | true=>exact hb c_ s1 σ H1 Q I1 q1
 | false=>exact⟨.bl false,H1,I1,rfl,q1⟩
theorem NP(ha:PE X a ta):PE X (.UnaryOp .Not a pos) (QK ta):=by
 intro c_ s σ H Q I h
 refine UnaryOp_ (iS (ha c_ s σ H _ I h) fun v s1 ⟨x,H1,I1,r1,q1⟩=>?_)
 obtain⟨c,rfl,q1⟩:=q1
 cases r1
 exact not_of (abv ⟨.bl (!c),H1,I1,rfl,q1⟩)
end
def gF(K:Qqy)(H:Hp)(a:Addr)(xs:List V):Prop:=
 Rd H a (.lst xs)∨
  ∃(o:Obj)(gK:Array Value)(n:Nat),K.lookup a=some o∧o.cls=.type "list"∧o.dict=none∧o.data=.seq gK n∧gK.size≤sizeLine∧Vals xs gK.toList
def rg(K:Qqy)(H:Hp)(a:Addr)(xs:List V):Prop:=
 Rd H a (.tup xs)∨
  ∃(o:Obj)(gK:Array Value)(n:Nat),K.lookup a=some o∧o.cls=.type "tuple"∧o.data=.seq gK n∧gK.size≤sizeLine∧Vals xs gK.toList
noncomputable def UY:Value→Option V
 | .none=>some .jl
 | .bool b=>some (.bl b)
 | .int i _=>some (.int i)
 | .str x _=>some (.str x)
 | .bytes b _=>some (.E4 b)
 | .float b _=>some (.MP b)
 | .ref a=>some (.ref a)
 | .type n=>some (.ty n)
 | _=>none
theorem RelV.abs{x:V}{u:Value}(r:RelV x u):UY u=some x:=by
 cases x with
 | jl=>cases r;rfl
 | bl _=>cases r;rfl
 | int _=>obtain⟨t,rfl⟩:=r;rfl
 | str _=>obtain⟨t,rfl⟩:=r;rfl
 | E4 _=>obtain⟨t,rfl⟩:=r;rfl
 | MP _=>obtain⟨t,rfl⟩:=r;rfl
 | ref _=>cases r;rfl
 | ty _=>cases r;rfl
theorem RelV.inj{x y:V}{u:Value}(r:RelV x u)(q:RelV y u):x=y:=aaz (r.abs.symm.trans q.abs)
theorem Vals.inj:∀{xs ys:List V} {us:List Value},Vals xs us→Vals ys us→xs=ys
 | _,_,_,.nil,.nil=>rfl
 | _,_,_,.cons r t,.cons r' t'=>by rw[r.inj r',Vals.inj t t']
section
variable{X:Cx}{c_:Qqz}{σ:St}{H:Hp}{s:Shared}{a:Addr}{xs ys:List V}
theorem gF.of{K:Qqy}(h:H a=some (.lst xs)):gF K H a xs:=.inl (.inl h)
theorem rg.of{K:Qqy}(h:H a=some (.tup xs)):rg K H a xs:=.inl (.inl h)
theorem Inv.list(I:Inv X c_ σ H s)(h:gF X.K H a xs):∃gK:List Value,Vals xs gK∧PlainL s.heap a gK.toArray∧xs.length≤sizeLine:=by
 rcases h with h|⟨o,gK,n,hk,hc,hd,hs,hz,r⟩
 ·obtain⟨z,gK,n,r,e⟩:=h.ok I.iG
  exact⟨gK,r,⟨_,n,e,rfl,rfl,rfl⟩,z⟩
 ·refine⟨gK.toList,r,⟨o,n,I.xo a o hk,hc,hd,by simpa using hs⟩,?_⟩
  have e:=r.length
  simp only [aa5] at e
  omega
theorem Inv.tuple(I:Inv X c_ σ H s)(h:rg X.K H a xs):∃gK:List Value,Vals xs gK∧IsTup s.heap a gK.toArray∧xs.length≤sizeLine:=by
 rcases h with h|⟨o,gK,n,hk,hc,hs,hz,r⟩
 ·obtain⟨z,gK,r,p⟩:=h.ok I.iG
  exact⟨gK,r,p,z⟩
 ·refine⟨gK.toList,r,⟨o,I.xo a o hk,hc,n,by simpa using hs⟩,?_⟩
  have e:=r.length
  simp only [aa5] at e
  omega
theorem Inv.pq(I:Inv X c_ σ H s)(h:gF X.K H a xs)(h':gF X.K H a ys):xs=ys:=by
 obtain⟨gK,r,⟨o,n,e,_,_,d⟩,_⟩:=I.list h
 obtain⟨its',r',⟨o',n',e',_,_,d'⟩,_⟩:=I.list h'
 rw[e] at e';cases e'
 rw[d] at d'
 injection d' with d1 _
 have:gK=its':=by simpa using aa2 Array.toList d1
 subst this
 exact r.inj r'
theorem Inv.G_(I:Inv X c_ σ H s)(h:rg X.K H a xs)(h':rg X.K H a ys):xs=ys:=by
 obtain⟨gK,r,⟨o,e,_,n,d⟩,_⟩:=I.tuple h
 obtain⟨its',r',⟨o',e',_,n',d'⟩,_⟩:=I.tuple h'
 rw[e] at e';cases e'
 rw[d] at d'
 injection d' with d1 _
 have:gK=its':=by simpa using aa2 Array.toList d1
 subst this
 exact r.inj r'
end
noncomputable abbrev Cx.AH(X:Cx)(E:Qqq):Cx:={X with xe:=E}
noncomputable abbrev Cx.QL(X:Cx):Cx:=X.AH fun _ _=>False
theorem Cx.Ok.AH{X:Cx}(ok:X.Ok)(E:Qqq):(X.AH E).Ok:=
 ⟨ok.mod,ok.kind,ok.glob,ok.blt,ok.above,ok.inj,ok.has,ok.NI,ok.hd,ok.frames,ok.P9,ok.TV,ok.bs,ok.IB,ok.q_,ok.G9,ok.tZ,ok.Li⟩
theorem Cx.Ok.rh{X:Cx}{E:Qqq}(ok:(X.AH E).Ok):X.Ok:=
 ⟨ok.mod,ok.kind,ok.glob,ok.blt,ok.above,ok.inj,ok.has,ok.NI,ok.hd,ok.frames,ok.P9,ok.TV,ok.bs,ok.IB,ok.q_,ok.G9,ok.tZ,ok.Li⟩
section
variable{X:Cx}{c_:Qqz}{σ:St}{H:Hp}{s:Shared}{E:Qqq}
theorem Inv.AH(I:Inv X c_ σ H s)(E:Qqq):Inv (X.AH E) c_ σ H s:=⟨I.ok.AH E,I.os,I.bare,I.base,I.loc,I.cell,I.free,I.nF,I.pin,I.iG,I.len⟩
theorem Inv.rh(I:Inv (X.AH E) c_ σ H s):Inv X c_ σ H s:=⟨I.ok.rh,I.os,I.bare,I.base,I.loc,I.cell,I.free,I.nF,I.pin,I.iG,I.len⟩
theorem SP.rh{D:Ends}{f:Flow}{s':Shared}(h:SP (X.AH E) c_ D f s'):SP X c_ D f s':=by
 cases f with
 | next=>obtain⟨σ',H',I,q⟩:=h;exact⟨σ',H',I.rh,q⟩
 | brk=>obtain⟨σ',H',I,q⟩:=h;exact⟨σ',H',I.rh,q⟩
 | cont=>obtain⟨σ',H',I,q⟩:=h;exact⟨σ',H',I.rh,q⟩
 | ret u=>obtain⟨v,σ',H',I,r,q⟩:=h;exact⟨v,σ',H',I.rh,r,q⟩
theorem EW.QL{st:List Stmt}{t:TS}(h:EW X.QL st t):EW X st t:=fun c_ s σ H D I hw=>
 abo (h c_ s σ H D (I.AH _) hw) (fun _ _ q=>q.rh) fun _ _ z=>False.elim z
end
section
variable{X:Cx}{st:Stmt}{rest:List Stmt}{t u:TS}{e:Expr}{te:TE}{pos:Pos}
def QM:TS:=fun D σ H=>D.nx σ H
def ik(t u:TS):TS:=fun D σ H=>t {D with nx:=u D} σ H
theorem g_:EW X [] QM:=fun _ _ σ H _ I h=>wpAny_execs_nil ⟨σ,H,I,h⟩
theorem de(h1:PS X st t)(h2:EW X rest u):EW X (st::rest) (ik t u):=by
 intro c_ s σ H D I h
 refine wpAny_execs_cons (iS (h1 c_ s σ H {D with nx:=u D} I h) fun f s1 q=>?_)
 cases f with
 | next=>
  obtain⟨σ',H',I',q⟩:=q
  exact h2 c_ s1 σ' H' D I' q
 | ret v=>exact q
 | brk=>exact q
 | cont=>exact q
theorem f_(h1:PS X st t):EW X [st] t:=by
 intro c_ s σ H D I h
 refine wpAny_execs_cons (iS (h1 c_ s σ H D I h) fun f s1 q=>?_)
 cases f with
 | next=>exact wpAny_execs_nil q
 | ret v=>exact q
 | brk=>exact q
 | cont=>exact q
def QN:TS:=fun D σ H=>D.ct σ H
theorem Dr:PS X (.Continue pos) QN:=fun _ _ σ H _ I h=>wpAny_Continue ⟨σ,H,I,h⟩
theorem Inv.quiet{c_:Qqz}{σ:St}{H:Hp}{s:Shared}(I:Inv X c_ σ H s):interactive X.env=false:=by simp[interactive,I.ok.kind]
def QO(te:TE):TS:=fun D σ H=>te σ H fun _ H1=>D.nx σ H1
theorem gM(he:PE X e te)(hs:swapsWith e none pos.line X.env=pure false:=by rfl):PS X (.Expr e pos) (QO te):=by
 intro c_ s σ H D I h
 exact wpAny_Expr_any (iS (he c_ s σ H _ I h) fun v s1 ⟨x,H1,I1,r1,q1⟩=>⟨σ,H1,I1,q1⟩) I.quiet hs
def UZ(te:TE):TS:=fun D σ H=>te σ H D.rt
theorem gR(he:PE X e te):PS X (.Return (some e) pos) (UZ te):=by
 intro c_ s σ H D I h
 exact wpAny_Return_some (iS (he c_ s σ H _ I h) fun v s1 ⟨x,H1,I1,r1,q1⟩=>⟨x,σ,H1,I1,r1,q1⟩)
def U0(c:TT)(t u:TS):TS:=fun D σ H=>c σ H fun b H1=>if b=true then t D σ H1 else u D σ H1
theorem ir{c:Expr}{a b:List Stmt}{tc:TT}(hc:PT X c tc)(ha:EW X a t)(hb:EW X b u):PS X (.If c a b pos) (U0 tc t u):=by
 intro c_ s σ H D I h
 refine wpAny_If (iS (hc c_ s σ H _ I h) fun d s1 ⟨H1,I1,q1⟩=>?_)
 cases d with
 | true=>exact ha c_ s1 σ H1 D I1 q1
 | false=>exact hb c_ s1 σ H1 D I1 q1
end
abbrev TG:=V→St→Hp→(St→Hp→Prop)→Prop
abbrev NQ:=List V→St→Hp→(St→Hp→Prop)→Prop
def PG(X:Cx)(target:Expr)(t:TG):Prop:=
 ∀(c_:Qqz)(s:Shared)(σ:St)(H:Hp)(v:V)(u:Value)(Q:St→Hp→Prop),Inv X c_ σ H s→RelV v u→t v σ H Q→
  wpAny (model X.prog X.w) X.A (assign target X.env u) (fun _ s'=>∃σ' H',Inv X c_ σ' H' s'∧Q σ' H') X.xe s
def TX(X:Cx)(ts:List Expr)(t:NQ):Prop:=
 ∀(c_:Qqz)(s:Shared)(σ:St)(H:Hp)(vs:List V)(us:List Value)(Q:St→Hp→Prop),Inv X c_ σ H s→Vals vs us→t vs σ H Q→
  wpAny (model X.prog X.w) X.A (assignInOrder ((assignEach ts X.env).map (·.2)) us) (fun _ s'=>∃σ' H',Inv X c_ σ' H' s'∧Q σ' H') X.xe s
abbrev NR:=V→V→V→Hp→(Hp→Prop)→Prop
def QP(X:Cx)(t:NR):Prop:=
 ∀(c_:Qqz)(s:Shared)(σ:St)(H:Hp)(o i v:V)(ov iv u:Value)(Q:Hp→Prop),Inv X c_ σ H s→RelV o ov→RelV i iv→RelV v u→t o i v H Q→
  wpAny (model X.prog X.w) X.A (setItem ov iv u) (fun _ s'=>∃H',Inv X c_ σ H' s'∧Q H') X.xe s
section
variable{X:Cx}{pos:Pos}
def k7(i:Nat):TG:=fun v σ H Q=>Q (σ.set i (some v)) H
theorem iz{i:Nat}{x:Str}(hN:X.N.Nodup)(hi:X.N[i]?=some x)(hx:Loc X.env.scope x)(hf:X.fn x=true∨X.env.scope.names.lookup x=some .local:=by first|exact .inl rfl|exact .inr rfl|assumption):PG X (.Name x pos) (k7 i):=by
 intro c_ s σ H v u Q I r h
 exact wpAny_assign_Name (Dm I hN hi hx r (fun s' I'=>⟨_,H,I',h⟩) hf)
def U1:NQ:=fun vs σ H Q=>vs=[]∧Q σ H
def QQ(t:TG)(u:NQ):NQ:=fun vs σ H Q=>∃v r,vs=v::r∧t v σ H fun σ' H'=>u r σ' H' Q
theorem Gk:TX X [] U1:=by
 intro c_ s σ H vs us Q I r h
 obtain⟨e,h⟩:=h
 subst e
 cases r
 exact assignInOrder_nil ⟨σ,H,I,h⟩
theorem uK{e:Expr}{es:List Expr}{t:TG}{u:NQ}(h1:PG X e t)(h2:TX X es u)
  (hs:(assignEach (e::es) X.env).map (·.2)=assign e X.env::(assignEach es X.env).map (·.2):=by rfl):TX X (e::es) (QQ t u):=by
 intro c_ s σ H vs us Q I r h
 obtain⟨v,vr,e1,h⟩:=h
 subst e1
 cases r with
 | cons r rr=>
  rw[hs]
  refine assignInOrder_cons (iS (h1 c_ s σ H _ _ _ I r h) fun _ s1 ⟨σ1,H1,I1,q1⟩=>?_)
  exact h2 c_ s1 σ1 H1 _ _ Q I1 rr q1
def U2(K:Qqy)(n:Nat)(t:NQ):TG:=fun v σ H Q=>∃a xs,v=.ref a∧rg K H a xs∧xs.length=n∧t xs σ H Q
theorem ID{es:List Expr}{k:Nat}{t:NQ}{n:Nat}(hc:X.calm=true)(h:TX X es t)
  (hn:(assignEach es X.env).length=n:=by rfl) (xc:(assignEach es X.env).findIdx? (·.1)=none:=by rfl):PG X (.Tuple es k pos) (U2 X.K n t):=by
 intro c_ s σ H v u Q I r hw
 obtain⟨a,xs,e1,hq,hl,hw⟩:=hw
 subst e1
 cases r
 obtain⟨gK,rv,ht,hz⟩:=I.tuple hq
 refine assign_Tuple_tuple (I.ok.hd hc) ht (by simp[hn,←hl,rv.length]) xc fun h' hx=>?_
 have I1:Inv X c_ σ H {s with heap:=h'}:=I.kept (t':=s.toks) fun b o e=>hx b o (aaN (aar e)) e
 exact h c_ _ σ H xs _ Q I1 (by simpa using rv) hw
def U3(to ti:TE)(t:NR):TG:=fun v σ H Q=>to σ H fun o H1=>ti σ H1 fun i H2=>t o i v H2 fun H3=>Q σ H3
theorem BU{o i:Expr}{to ti:TE}{t:NR}(ho:PE X o to)(hi:PE X i ti)(hs:QP X t)
  (ha:∀v,assign (.Subscript o i pos) X.env v=(do
   let ov ←holding [v] (eval o X.env)
   let iv ←holding [v,ov] (eval i X.env)
   standAt pos
   holding [v,ov,iv] (setItem ov iv v)
   release [v,ov,iv] []):=by intro _;rfl):PG X (.Subscript o i pos) (U3 to ti t):=by
 intro c_ s σ H v u Q I r h
 rw[ha]
 refine Ss (abM (iS (ho c_ s σ H _ I h) fun ov s1 ⟨x,H1,I1,r1,q1⟩=>?_))
 refine Ss (abM (iS (hi c_ s1 σ H1 _ I1 q1) fun iv s2 ⟨y,H2,I2,r2,q2⟩=>?_))
 refine Ss (wpAny_standAt (Ss (abM (iS (hs c_ s2 σ H2 x y v ov iv u _ I2 r1 r2 r q2) fun _ s3 ⟨H3,I3,q3⟩=>?_))))
 exact wpAny_release ⟨σ,H3,I3,q3⟩
def Ha(te:TE)(g:TG):TS:=fun D σ H=>te σ H fun x H1=>g x σ H1 D.nx
theorem BV{tg e:Expr}{te:TE}{g:TG}(he:PE X e te)(hg:PG X tg g)(hs:swapsWithSole [tg] e pos.line X.env=pure false:=by rfl)(hw:swappedStores [tg] e X.env=pure none:=by rfl)
  (h1:(assignEach [tg] X.env).map (·.2)=[assign tg X.env]:=by rfl):PS X (.Assign [tg] e pos) (Ha te g):=by
 intro c_ s σ H D I h
 refine wpAny_Assign_stores (iS (he c_ s σ H _ I h) fun v s1 ⟨x,H1,I1,r1,q1⟩=>?_) hs hw
 rw[h1]
 exact iS (hg c_ s1 σ H1 x v _ I1 r1 q1) fun _ s2 q=>q
theorem ly{i:Nat}{x:Str}{e:Expr}{te:TE}{pos':Pos}(hN:X.N.Nodup)(hi:X.N[i]?=some x)(hx:Loc X.env.scope x)(he:PE X e te)(hs:swapsWith e (some (.Name x pos')) pos.line X.env=pure false:=by rfl)(hf:X.fn x=true∨X.env.scope.names.lookup x=some .local:=by first|exact .inl rfl|exact .inr rfl|assumption) :
  PS X (.Assign [.Name x pos'] e pos) (Ha te (k7 i)):=by
 intro c_ s σ H D I h
 refine wpAny_Assign_Name (iS (he c_ s σ H _ I h) fun v s1 ⟨y,H1,I1,r1,q1⟩=>?_) hs
 exact Dm I1 hN hi hx r1 (fun s2 I2=>⟨_,H1,I2,q1⟩) hf
def NS(c:TT)(tb:TS):TS:=fun D σ H=>∃W:Nat→St→Hp→Prop,(∃m,W m σ H)∧∀m σ H,W m σ H→
 c σ H fun b H1=>if b=true then ∃N:St→Hp→Prop,(∀σ' H',N σ' H'→∃m',m'<m∧W m' σ' H')∧tb {D with nx:=N,ct:=N,bk:=D.nx} σ H1 else D.nx σ H1
theorem Ds{c:Expr}{body:List Stmt}{tc:TT}{tb:TS}(hp:PassesOwn (model X.prog X.w) X.A X.env X.xe)(hc:PT X c tc)(hb:EW X body tb):PS X (.While c body [] pos) (NS tc tb):=by
 intro c_ s σ H D I h
 obtain⟨W,⟨m0,w0⟩,turn⟩:=h
 refine wpAny_While (codeAny_whileLoop (fun n s'=>∃σ' H',Inv X c_ σ' H' s'∧W n σ' H') ?_ m0 ⟨σ,H,I,w0⟩)
 rintro n s1 ⟨σ1,H1,I1,w1⟩
 refine abR hp (iS (hc c_ s1 σ1 H1 _ I1 (turn n σ1 H1 w1)) fun b s2 ⟨H2,I2,q2⟩=>?_)
 cases b with
 | true=>
  obtain⟨N,hN,q2⟩:=q2
  rw[aaq rfl]
  refine abR hp (iS (hb c_ s2 σ1 H2 _ I2 q2) fun f s3 q3=>?_)
  cases f with
  | next=>
   obtain⟨σ3,H3,I3,n3⟩:=q3
   obtain⟨m',hm,w3⟩:=hN σ3 H3 n3
   exact⟨m',hm,σ3,H3,I3,w3⟩
  | cont=>
   obtain⟨σ3,H3,I3,n3⟩:=q3
   obtain⟨m',hm,w3⟩:=hN σ3 H3 n3
   exact⟨m',hm,σ3,H3,I3,w3⟩
  | brk=>exact q3
  | ret v=>exact q3
 | false=>
  rw[aal aad]
  exact wpAny_execs_nil ⟨σ1,H2,I2,q2⟩
end
structure It where
 go:Nat→Hp→Prop
 IE:Nat→Hp→V→Hp→Prop
 stop:Nat→Hp→Prop
def qb(X:Cx)(c_:Qqz)(H:Hp)(b:Addr):Prop:=
 H b=none∧b≠X.env.locals∧b∉X.fs∧(b∈X.ex∨X.s₀.heap.objs.size≤b)∧(∀x c,X.env.cells.lookup x=some c→c≠b)∧∀p∈X.pn++c_,p.1≠b
theorem Inv.yu{X:Cx}{c_:Qqz}{σ:St}{H H':Hp}{s:Shared}{b:Addr}(I:Inv X c_ σ H s)(hb:s.heap.objs.size≤b)(hn:H' b=none):qb X c_ H' b:=by
 refine⟨hn,ab5 (aas I.lt hb),I.NJ hb,.inr (aac I.sz hb),fun x c e z=>?_,fun p hp z=>?_⟩
 ·obtain⟨v,q⟩:=I.cell x c e
  exact absurd (aas q.lt (by rw[z];exact hb)) (aa4 _)
 ·exact absurd (aas (aar (I.pin p hp).1) (by rw[z];exact hb)) (aa4 _)
structure Turn(P:Program)(w:World)(K:Qqy)(tg:Expr)(J:It)(fp:List Addr)(it:Addr)(tn:Nat→Heap→Prop):Prop where
 mem:it∈fp
 obj:∀i h,tn i h→∀b∈fp,∃o,h.get? b=some o∧∀v,o.data≠.cell v
 keep:∀i h h',tn i h→(∀b∈fp,∀o,h.get? b=some o→h'.get? b=some o)→tn i h'
 item:∀(X:Cx),X.prog=P→X.w=w→X.K=K→X.calm=true→∀(i:Nat)(c_:Qqz)(s:Shared)(σ:St)(H:Hp)(E:Qqq),Inv X c_ σ H s→(∀b∈fp,qb X c_ H b)→tn i s.heap→J.go i H→
  wpAny (model P w) X.A (pyNext (.ref it)) (fun r s1=>∃u,r=some u∧
   wpAny (model P w) X.A (letOwnedTupleGo tg (.ref it) u) (fun _ s2=>∃x H',Inv X c_ σ H' s2∧RelV x u∧J.IE i H x H'∧tn (i+1) s2.heap∧∀b∈fp,H' b=none) E s1) E s
 done:∀(X:Cx),X.prog=P→X.w=w→X.K=K→X.calm=true→∀(i:Nat)(c_:Qqz)(s:Shared)(σ:St)(H:Hp)(E:Qqq),Inv X c_ σ H s→(∀b∈fp,qb X c_ H b)→tn i s.heap→J.stop i H→
  wpAny (model P w) X.A (pyNext (.ref it)) (fun r s1=>r=none∧Inv X c_ σ H s1) E s
 self:∀(A:Around)(i:Nat)(s:Shared)(Q:Qqq)(E:Qqq),tn i s.heap→Q (.ref it) s→wpAny (model P w) A (pyIter (.ref it)) Q E s
abbrev TI:=St→Hp→(It→Hp→Prop)→Prop
def U4(X:Cx)(c_:Qqz)(σ:St)(tg:Expr)(R:It→Hp→Prop)(RW:Value)(s2:Shared):Prop:=
 ∃(it:Addr)(fp:List Addr)(tn:Nat→Heap→Prop)(J:It)(H':Hp),RW=.ref it∧Inv X c_ σ H' s2∧Turn X.prog X.w X.K tg J fp it tn∧tn 0 s2.heap∧(∀b∈fp,qb X c_ H' b)∧R J H'
def PI(X:Cx)(tg iter:Expr)(wi:TI):Prop:=
 ∀(c_:Qqz)(s:Shared)(σ:St)(H:Hp)(R:It→Hp→Prop),Inv X c_ σ H s→wi σ H R→
  wpAny (model X.prog X.w) X.A (eval iter X.env) (fun v s1=>wpAny (model X.prog X.w) X.A (pyIter v) (U4 X c_ σ tg R) X.xe s1) X.xe s
theorem y6{M:Model}{A:Around}{E:Qqq}{s:Shared}{tg:Expr}{it:Addr}{u:Value}{o:Obj}{n:String}{vs:Array Value}{Q:Unit→Shared→Prop}(ho:s.heap.get? it=some o)(hc:o.cls=.type n)(hd:o.data=.fields vs)
  (hn:["enumerate","zip","dict_itemiterator","dict_reverseitemiterator","odict_iterator","itertools.zip_longest","itertools.pairwise"].contains n=false) (hQ:Q () s):wpAny M A (letOwnedTupleGo tg (.ref it) u) Q E s:=by
 unfold letOwnedTupleGo
 cases tg<;>first
  | exact aai hQ
  | (cases u<;>first
   | exact aai hQ
   | (
    refine Ss (wpAny_load ho ?_)
    rw[hc,hd]
    show wpAny M A (if(["enumerate","zip","dict_itemiterator","dict_reverseitemiterator","odict_iterator","itertools.zip_longest","itertools.pairwise"].contains n&&vs[0]? ==some (rawInt _))=true then _ else _) Q E s
    rw[aal (by intro h;rw[hn,Bool.false_and] at h;cases h)]
    exact aai hQ))
noncomputable def P_(K:Qqy)(a:Addr):It:=
 ⟨fun i H=>∃xs x,gF K H a xs∧xs[i]?=some x,fun i H x H'=>H'=H∧∀xs,gF K H a xs→xs[i]?=some x,fun i H=>∃xs,gF K H a xs∧xs.length≤i⟩
noncomputable def MR(lo:Int)(n:Nat):It:=⟨fun i _=>i<n,fun i H x H'=>H'=H∧x=.int (lo+i),fun i _=>n≤i⟩
theorem Hb{P:Program}{w:World}{K:Qqy}{tg:Expr}(a it:Addr):Turn P w K tg (P_ K a) [it] it (fun i h=>h.IsListIter it a i) where
 mem:=by simp
 obj:=fun i h st b hb=>by
  have e:b=it:=by simpa using hb
  subst e
  obtain⟨o,e,c,d⟩:=st
  exact⟨o,e,fun v z=>by rw[d] at z;cases z⟩
 keep:=fun i h h' st k=>st.at fun o e=>k it (by simp) o e
 item:=by
  intro X hP hw hK hc i c_ s σ H E I hf st hg
  subst hP hw hK
  obtain⟨xs,x,hq,hx⟩:=hg
  obtain⟨gK,rv,p,hz⟩:=I.list hq
  obtain⟨u,hu,ru⟩:=rv.get hx
  obtain⟨f0,f1,f2,f3,f4,f5⟩:=hf it (by simp)
  refine wpAny_pyNext_list_item st p.isList (x:=u) (by simpa using hu) fun h' A4 sb=>?_
  have I1:Inv X c_ σ H {s with heap:=h'}:=I.turned (t':=s.toks) (fun b o hb e=>(sb.2 b hb).trans e) f0 f1 f3 f4 f5
  obtain⟨o,e,c,d⟩:=id A4
  exact⟨u,rfl,y6 (s:={s with heap:=h'}) e c d (by decide) ⟨x,H,I1,ru,⟨rfl,fun ys hy=>by rw[I.pq hy hq];exact hx⟩,A4,fun b hb=>(hf b hb).1⟩⟩
 done:=by
  intro X hP hw hK hc i c_ s σ H E I hf st hg
  subst hP hw hK
  obtain⟨xs,hq,hx⟩:=hg
  obtain⟨gK,rv,p,hz⟩:=I.list hq
  obtain⟨f0,f1,f2,f3,f4,f5⟩:=hf it (by simp)
  have hl:=rv.length
  exact wpAny_pyNext_list_end (I.ok.hd hc) st p.isList (by simp;omega) fun h' eb=>⟨rfl,I.turned (t':=s.toks) (fun b o hb e=>eb b o hb e) f0 f1 f3 f4 f5⟩
 self:=fun _ _ _ _ _ st h=>wpAny_pyIter_listiter st h
theorem E5{P:Program}{w:World}{K:PySem.W.Frag}{tg:Expr}(it:Addr)(lo:Int)(n:Nat):Turn P w K tg (MR lo n) [it] it (fun i h=>IsRangeIter h it (lo+(i:Nat)*1) ((n:Int)-(i:Nat)) 1) where
 mem:=by simp
 obj:=fun i h st b hb=>by
  have e:b=it:=by simpa using hb
  subst e
  exact⟨_,st,fun v z=>by
   have z':Data.fields _=Data.cell v:=z
   cases z'⟩
 keep:=fun i h h' st k=>k it (by simp) _ st
 item:=by
  intro X hP hw hK hc i c_ s σ H E I hf st hg
  subst hP hw hK
  obtain⟨f0,f1,f2,f3,f4,f5⟩:=hf it (by simp)
  have W:=Walks.range (prog:=X.prog) (w:=X.w) (I.ok.hd hc) it lo 1 n
  refine W.item i s _ _ hg st fun v h' tk hv A4 kk=>?_
  obtain⟨t,rfl⟩:=hv
  have I1:Inv X c_ σ H {s with heap:=h',toks:=tk}:=I.turned (fun b o hb e=>kk b o (by simpa using hb) e) f0 f1 f3 f4 f5
  refine⟨_,rfl,y6 (s:={s with heap:=h',toks:=tk}) (n:="range_iterator") A4 rfl rfl (by decide) ⟨.int (lo+i),H,I1,⟨t,?_⟩,⟨rfl,rfl⟩,A4,fun b hb=>(hf b hb).1⟩⟩
  rw[Int.mul_one]
 done:=by
  intro X hP hw hK hc i c_ s σ H E I hf st hg
  subst hP hw hK
  obtain⟨f0,f1,f2,f3,f4,f5⟩:=hf it (by simp)
  exact wpAny_pyNext_range_end (I.ok.hd hc) st (by have:n≤i:=hg;omega) fun h' eb=>⟨rfl,I.turned (t':=s.toks) (fun b o hb e=>eb b o hb e) f0 f1 f3 f4 f5⟩
 self:=fun _ _ _ _ _ st h=>wpAny_pyIter_rangeiter st h
section
variable{X:Cx}{tg:Expr}
def QR(K:Qqy)(tl:TE):TI:=fun σ H R=>tl σ H fun x H1=>∃a,x=.ref a∧(∃xs,gF K H1 a xs)∧R (P_ K a) H1
theorem ie{l:Expr}{tl:TE}(hl:PE X l tl):PI X tg l (QR X.K tl):=by
 intro c_ s σ H R I h
 refine iS (hl c_ s σ H _ I h) fun v s1 ⟨x,H1,I1,r1,q1⟩=>?_
 obtain⟨a,e,⟨xs,hq⟩,q⟩:=q1
 subst e
 cases r1
 obtain⟨gK,rv,p,hz⟩:=I1.list hq
 refine wpAny_pyIter_list p.isList ?_
 refine⟨s1.heap.objs.size,[s1.heap.objs.size],_,_,H1,rfl,I1.kept (t':=s1.toks) fun b o e=>YH _ e,Hb a _,⟨_,aax _ rfl,rfl,rfl⟩,fun b hb=>?_,q⟩
 have e:b=s1.heap.objs.size:=by simpa using hb
 subst e
 exact I1.yu (Vx _) (I1.iG.fresh (Vx _))
theorem Dt{c_:Qqz}{σ:St}{H:Hp}{s:Shared}{R:It→Hp→Prop}{E:Qqq}{lo hi:Int}{t u v:Tok}{tk:Nat}(I:Inv X c_ σ H s)(h1:-(2 ^ 62)≤lo)(h2:lo<2 ^ 62)(h3:-(2 ^ 62)≤hi)(h4:hi<2 ^ 62)
  (q:R (MR lo (hi-lo).toNat) H):wpAny (model X.prog X.w) X.A (pyIter (.ref s.heap.objs.size)) (U4 X c_ σ tg R) E {s with heap:=s.heap.push {cls:=.type "range",data:=.fields #[.int lo t,.int hi u,.int 1 v]},toks:=tk}:=by
 refine wpAny_pyIter_range (IsRange.new ..) (small_one h1 h2 h3 h4) ?_
 have I1:Inv X c_ σ H {s with heap:=s.heap.push {cls:=.type "range",data:=.fields #[.int lo t,.int hi u,.int 1 v]},toks:=tk}:=I.kept fun b o e=>YH _ e
 refine⟨(s.heap.push {cls:=.type "range",data:=.fields #[.int lo t,.int hi u,.int 1 v]}).objs.size,[(s.heap.push {cls:=.type "range",data:=.fields #[.int lo t,.int hi u,.int 1 v]}).objs.size],_,_,H,rfl,
  I1.kept (t':=tk) fun b o e=>YH _ e,E5 _ lo (hi-lo).toNat,?_,fun b hb=>?_,q⟩
 ·have e1:lo+((0:Nat):Int)*1=lo:=by simp
  have e2:(((hi-lo).toNat:Nat):Int)-((0:Nat):Int)=Builtin.Range.rangeSize lo hi 1:=by rw[rangeSize_one];split<;>omega
  show IsRangeIter _ _ (lo+((0:Nat):Int)*1) ((((hi-lo).toNat:Nat):Int)-((0:Nat):Int)) 1
  rw[e1,e2]
  exact aax _ rfl
 ·have e:b=(s.heap.push {cls:=.type "range",data:=.fields #[.int lo t,.int hi u,.int 1 v]}).objs.size:=by simpa using hb
  subst e
  exact I1.yu (Vx _) (I1.iG.fresh (Vx _))
def QS(ta:TA):TI:=fun σ H R=>ta σ H fun vs H1=>∃j:Int,vs=[.int j]∧-(2 ^ 62)≤j∧j<2 ^ 62∧R (MR 0 j.toNat) H1
def QT(ta:TA):TI:=fun σ H R=>ta σ H fun vs H1=>∃i j:Int,vs=[.int i,.int j]∧(-(2 ^ 62)≤i∧i<2 ^ 62∧-(2 ^ 62)≤j∧j<2 ^ 62)∧R (MR i (j-i).toNat) H1
theorem j7{a:Expr}{ta:TA}{p pos:Pos}(hg:Gl X "range")(hm:X.mg "range"=none)(ha:PA X [a] ta)(hs:starEach [a] X.env=[(false,eval a X.env)]:=by rfl):PI X tg (.Call (.Name "range" p) [a] [] pos) (QS ta):=by
 intro c_ s σ H R I h
 refine Call_ (oX I hg hm boot_range (aaW (iS (ha pos c_ s σ H _ I h) fun us s1 ⟨vs,H1,I1,r1,q1⟩=>?_) hs rfl))
 obtain⟨j,e,q1,q2,q⟩:=q1
 subst e
 cases r1 with
 | cons r rr=>
  cases rr
  obtain⟨t,rfl⟩:=r
  exact call_range_1 (Dt I1 (by omega) (by omega) q1 q2 (by simpa using q))
theorem vX{a b:Expr}{ta:TA}{p pos:Pos}(hg:Gl X "range")(hm:X.mg "range"=none)(ha:PA X [a,b] ta)(hs:starEach [a,b] X.env=[(false,eval a X.env),(false,eval b X.env)]:=by rfl)(Ip:starEach [b] X.env=[(false,eval b X.env)]:=by rfl) :
  PI X tg (.Call (.Name "range" p) [a,b] [] pos) (QT ta):=by
 intro c_ s σ H R I h
 refine Call_ (oX I hg hm boot_range (aaW (iS (ha pos c_ s σ H _ I h) fun us s1 ⟨vs,H1,I1,r1,q1⟩=>?_) (by rw[hs,Ip]) (by rw[Ip];rfl)))
 obtain⟨i,j,e,⟨q1,q2,q3,q4⟩,q⟩:=q1
 subst e
 cases r1 with
 | cons r rr=>
  cases rr with
  | cons r' rr=>
   cases rr
   obtain⟨t,rfl⟩:=r
   obtain⟨t',rfl⟩:=r'
   exact call_range_2 (Dt I1 q1 q2 q3 q4 q)
def NT(wi:TI)(g:TG)(tb:TS):TS:=fun D σ H=>wi σ H fun J H1=>∃W:Nat→Nat→St→Hp→Prop,(∃m,W 0 m σ H1)∧∀i m σ H,W i m σ H→
 (J.stop i H∧D.nx σ H)∨(J.go i H∧∃N:St→Hp→Prop,(∀σ' H',N σ' H'→∃m',m'<m∧W (i+1) m' σ' H')∧∀x H',J.IE i H x H'→g x σ H' fun σ2 H2=>tb {D with nx:=N,ct:=N,bk:=D.nx} σ2 H2)
noncomputable def vY(fp:List Addr)(h:Heap):Qqz:=fp.filterMap fun b=>(h.get? b).map fun o=>(b,o)
theorem l4{fp:List Addr}{h:Heap}{b:Addr}{o:Obj}(hb:b∈fp)(e:h.get? b=some o):(b,o)∈vY fp h:=ab1.mpr ⟨b,hb,by rw[e];rfl⟩
theorem Hc{fp:List Addr}{h:Heap}{p:Addr×Obj}(hp:p∈vY fp h):p.1∈fp∧h.get? p.1=some p.2:=by
 obtain⟨b,hb,e⟩:=ab1.mp hp
 cases q:h.get? b with
 | none=>rw[q] at e;cases e
 | some o=>
  rw[q] at e
  have e':(b,o)=p:=aaz e
  subst e'
  exact⟨hb,q⟩
theorem Inv.pinned{c_:Qqz}{σ:St}{H:Hp}{s:Shared}{fp:List Addr}(I:Inv X c_ σ H s)(hf:∀b∈fp,qb X c_ H b)(ho:∀b∈fp,∃o,s.heap.get? b=some o∧∀v,o.data≠.cell v):Inv X (c_++vY fp s.heap) σ H s:=
 I.sQ fun p hp=>(Wl.mp hp).elim (fun z=>I.pin p (aaA _ z)) fun z=>by
  obtain⟨hb,e⟩:=Hc z
  obtain⟨f0,f1,f2,_⟩:=hf p.1 hb
  obtain⟨o,e',d⟩:=ho p.1 hb
  rw[e] at e';cases e'
  exact⟨e,f0,f1,f2,d⟩
theorem Inv.rj{c_ pl:Qqz}{σ:St}{H:Hp}{s:Shared}(I:Inv X (c_++pl) σ H s):Inv X c_ σ H s:=I.sQ fun p hp=>I.pin p (aaA _ (YI _ hp))
theorem iu{iter:Expr}{body:List Stmt}{wi:TI}{g:TG}{tb:TS}{pos:Pos}(hp:PassesOwn (model X.prog X.w) X.A X.env X.xe)(hc:X.calm=true)(hi:PI X tg iter wi)(hg:PG X tg g)(hb:EW X body tb)
  (hs:∀x,foldedSetIterable iter X.env x=pure x:=by intro _;rfl):PS X (.For tg iter body [] pos) (NT wi g tb):=by
 intro c_ s σ H D I h
 refine wpAny_For (iS (hi c_ s σ H _ I h) fun v s1 h1=>iS h1 fun RW s2 h2=>?_) hs
 obtain⟨it,fp,tn,J,H2,e,I2,T,Af,f2,W,⟨m0,w0⟩,turn⟩:=h2
 subst e
 have Pc:∀{H':Hp},(∀b∈fp,H' b=none)→∀b∈fp,qb X c_ H' b:=fun hn b hb=>⟨hn b hb,(f2 b hb).2⟩
 refine codeAny_forLoop_any (fun n s'=>∃i σ' H',Inv X c_ σ' H' s'∧tn i s'.heap∧(∀b∈fp,H' b=none)∧W i n σ' H') ?_ m0 ⟨0,σ,H2,I2,Af,fun b hb=>(f2 b hb).1,w0⟩
 rintro n s3 ⟨i,σ3,H3,I3,lV,Nf,w3⟩
 rcases turn i n σ3 H3 w3 with⟨stop,qn⟩|⟨go,N,hN,step⟩
 ·refine abR hp (iS (T.done X rfl rfl rfl hc i c_ s3 σ3 H3 X.xe I3 (Pc Nf) lV stop) fun r s4 ⟨hr,I4⟩=>?_)
  subst hr
  exact wpAny_execs_nil ⟨σ3,H3,I4,qn⟩
 ·refine abR hp (iS (T.item X rfl rfl rfl hc i c_ s3 σ3 H3 X.xe I3 (Pc Nf) lV go) fun r s4 ⟨u,hr,h4⟩=>?_)
  subst hr
  refine abR hp (iS h4 fun _ s5 ⟨x,H5,I5,r5,y5,Kx,RX⟩=>?_)
  have RY:=I5.pinned (Pc RX) (T.obj _ _ Kx)
  refine abR hp (iS (hg _ s5 σ3 H5 x u _ RY r5 (step x H5 y5)) fun _ s6 ⟨σ6,H6,I6,q6⟩=>?_)
  refine abR hp (iS (hb _ s6 σ6 H6 _ I6 q6) fun f s7 q7=>?_)
  have again:∀{σ7:St} {H7:Hp},Inv X (c_++vY fp s5.heap) σ7 H7 s7→N σ7 H7→∃m,m<n∧∃i σ' H',Inv X c_ σ' H' s7∧tn i s7.heap∧(∀b∈fp,H' b=none)∧W i m σ' H':=fun{σ7 H7} I7 n7=>by
   obtain⟨m',hm,w7⟩:=hN σ7 H7 n7
   refine⟨m',hm,i+1,σ7,H7,I7.rj,T.keep _ _ _ Kx fun b hb o e=>(I7.pin (b,o) (aaA _ (aaA _ (l4 hb e)))).1,fun b hb=>?_,w7⟩
   obtain⟨o,e,d⟩:=T.obj _ _ Kx b hb
   exact(I7.pin (b,o) (aaA _ (aaA _ (l4 hb e)))).2.1
  cases f with
  | next=>obtain⟨σ7,H7,I7,n7⟩:=q7;exact again I7 n7
  | cont=>obtain⟨σ7,H7,I7,n7⟩:=q7;exact again I7 n7
  | brk=>obtain⟨σ7,H7,I7,q7⟩:=q7;exact⟨σ7,H7,I7.rj,q7⟩
  | ret v=>obtain⟨x7,σ7,H7,I7,r7,q7⟩:=q7;exact⟨x7,σ7,H7,I7.rj,r7,q7⟩
end
theorem iH{K:PySem.W.Frag}{a:Addr}{xs:List V}{g:TG}{tb:TS}{D:Ends}{σ:St}{H:Hp}(Pv:Nat→St→Hp→Prop)(h0:Pv 0 σ H)(hl:∀i σ H,i≤xs.length→Pv i σ H→gF K H a xs)
  (hs:∀i x σ H,xs[i]?=some x→Pv i σ H→g x σ H fun σ2 H2=>tb {D with nx:=Pv (i+1),ct:=Pv (i+1),bk:=D.nx} σ2 H2) (hd:∀σ H,Pv xs.length σ H→D.nx σ H) :
  ∃W:Nat→Nat→St→Hp→Prop,(∃m,W 0 m σ H)∧∀i m σ H,W i m σ H→
   ((P_ K a).stop i H∧D.nx σ H)∨((P_ K a).go i H∧∃N:St→Hp→Prop,(∀σ' H',N σ' H'→∃m',m'<m∧W (i+1) m' σ' H')∧∀x H',(P_ K a).IE i H x H'→g x σ H' fun σ2 H2=>tb {D with nx:=N,ct:=N,bk:=D.nx} σ2 H2):=by
 refine⟨fun i m σ H=>m=xs.length-i∧i≤xs.length∧Pv i σ H,⟨xs.length,by simp,aaI _,h0⟩,?_⟩
 rintro i m σ H ⟨rfl,hi,p⟩
 have q:=hl i σ H hi p
 by_cases kB:i<xs.length
 ·refine .inr ⟨⟨xs,xs[i],q,by simp[kB]⟩,Pv (i+1),fun σ' H' p'=>⟨xs.length-(i+1),by omega,rfl,kB,p'⟩,fun x H' y=>?_⟩
  obtain⟨e,y⟩:=y
  subst e
  exact hs i x σ _ (y xs q) p
 ·have e:i=xs.length:=by omega
  subst e
  exact .inl ⟨⟨xs,q,Vx _⟩,hd σ H p⟩
theorem k8{lo:Int}{n:Nat}{g:TG}{tb:TS}{D:Ends}{σ:St}{H:Hp}(Pv:Nat→St→Hp→Prop)(h0:Pv 0 σ H)
  (hs:∀i σ H,i<n→Pv i σ H→g (.int (lo+i)) σ H fun σ2 H2=>tb {D with nx:=Pv (i+1),ct:=Pv (i+1),bk:=D.nx} σ2 H2) (hd:∀σ H,Pv n σ H→D.nx σ H) :
  ∃W:Nat→Nat→St→Hp→Prop,(∃m,W 0 m σ H)∧∀i m σ H,W i m σ H→
   ((MR lo n).stop i H∧D.nx σ H)∨((MR lo n).go i H∧∃N:St→Hp→Prop,(∀σ' H',N σ' H'→∃m',m'<m∧W (i+1) m' σ' H')∧∀x H',(MR lo n).IE i H x H'→g x σ H' fun σ2 H2=>tb {D with nx:=N,ct:=N,bk:=D.nx} σ2 H2):=by
 refine⟨fun i m σ H=>m=n-i∧i≤n∧Pv i σ H,⟨n,by simp,aaI _,h0⟩,?_⟩
 rintro i m σ H ⟨rfl,hi,p⟩
 by_cases kB:i<n
 ·refine .inr ⟨kB,Pv (i+1),fun σ' H' p'=>⟨n-(i+1),by omega,rfl,kB,p'⟩,fun x H' y=>?_⟩
  obtain⟨e,y⟩:=y
  subst e y
  exact hs i σ _ kB p
 ·have e:i=n:=by omega
  subst e
  exact .inl ⟨Vx _,hd σ H p⟩
abbrev R2:=V→V→Hp→VK→Prop
def xp(X:Cx)(f:Value→Value→Sem Value)(r:R2):Prop:=
 ∀(c_:Qqz)(s:Shared)(σ:St)(H:Hp)(x y:V)(v u:Value)(Q:VK),Inv X c_ σ H s→RelV x v→RelV y u→r x y H Q→
  wpAny (model X.prog X.w) X.A (f v u) (EP X c_ σ Q) X.xe s
def U5(X:Cx)(f:Value→Sem Value)(r:V→Hp→VK→Prop):Prop:=
 ∀(c_:Qqz)(s:Shared)(σ:St)(H:Hp)(x:V)(v:Value)(Q:VK),Inv X c_ σ H s→RelV x v→r x H Q→
  wpAny (model X.prog X.w) X.A (f v) (EP X c_ σ Q) X.xe s
def uL(X:Cx)(f:Value)(r:List V→Hp→VK→Prop):Prop:=
 ∀(c_:Qqz)(s:Shared)(σ:St)(H:Hp)(xs:List V)(us:List Value)(Q:VK),Inv X c_ σ H s→Vals xs us→r xs H Q→
  wpAny (model X.prog X.w) X.A (call f us) (EP X c_ σ Q) X.xe s
def U6(X:Cx)(r:V→Hp→(Bool→Hp→Prop)→Prop):Prop:=
 ∀(c_:Qqz)(s:Shared)(σ:St)(H:Hp)(x:V)(v:Value)(Q:Bool→Hp→Prop),Inv X c_ σ H s→RelV x v→r x H Q→
  wpAny (model X.prog X.w) X.A (truthy v) (TP X c_ σ Q) X.xe s
def QU(r:R2)(ta tb:TE):TE:=fun σ H Q=>ta σ H fun x H1=>tb σ H1 fun y H2=>r x y H2 Q
def tUn(r:V→Hp→VK→Prop)(ta:TE):TE:=fun σ H Q=>ta σ H fun x H1=>r x H1 Q
def rI(C:Int→Int→Prop)(g:Int→Int→V):R2:=fun x y H Q=>∃i j,x=.int i∧y=.int j∧C i j∧Q (g i j) H
def MS(g:Int→Int→V):R2:=fun x y H Q=>∃i j,x=.int i∧y=.int j∧Q (g i j) H
def rU(g:Int→V):V→Hp→VK→Prop:=fun x H Q=>∃i,x=.int i∧Q (g i) H
section
variable{X:Cx}{a b c:Expr}{ta tb tc:TE}{pos:Pos}
theorem NU(ha:PE X a ta)(hb:PE X b tb){c_:Qqz}{s:Shared}{σ:St}{H:Hp}{R:V→V→Hp→Prop}(I:Inv X c_ σ H s)
  (h:ta σ H fun x H1=>tb σ H1 fun y H2=>R x y H2) {Q:Qqq} {f:Value→Value→Sem Value}
  (hf:∀v u s2 x y H2,Inv X c_ σ H2 s2→RelV x v→RelV y u→R x y H2→wpAny (model X.prog X.w) X.A (f v u) Q X.xe s2) :
  wpAny (model X.prog X.w) X.A (eval a X.env) (fun v s₁=>wpAny (model X.prog X.w) X.A (eval b X.env) (fun u s₂=>wpAny (model X.prog X.w) X.A (f v u) Q X.xe s₂) X.xe s₁) X.xe s:=by
 refine iS (ha c_ s σ H _ I h) fun v s1 ⟨x,H1,I1,r1,q1⟩=>?_
 refine iS (hb c_ s1 σ H1 _ I1 q1) fun u s2 ⟨y,H2,I2,r2,q2⟩=>?_
 exact hf v u s2 x y H2 I2 r1 r2 q2
theorem gz{op:Operator}{r:R2}(ho:xp X (binaryOp op) r)(ha:PE X a ta)(hb:PE X b tb):PE X (.BinOp a op b pos) (QU r ta tb):=by
 intro c_ s σ H Q I h
 exact wpAny_BinOp (NU ha hb I h fun v u s2 x y H2 I2 rx ry q=>ho c_ s2 σ H2 x y v u Q I2 rx ry q)
theorem xq{op:UnaryOp}{r:V→Hp→VK→Prop}(ho:U5 X (unaryOp op) r)(ha:PE X a ta):PE X (.UnaryOp op a pos) (tUn r ta):=by
 intro c_ s σ H Q I h
 exact UnaryOp_ (iS (ha c_ s σ H _ I h) fun v s1 ⟨x,H1,I1,r1,q1⟩=>ho c_ s1 σ H1 x v Q I1 r1 q1)
theorem U7{f:Value→Value→Sem Value}{C:Int→Int→Prop}{g:Int→Int→Int}
  (rule:∀(i j:Int)(t u:Tok)(s:Shared)(Q:Qqq)(E:Qqq),C i j→Q (.int (g i j) s.toks) {s with toks:=s.toks+1}→wpAny (model X.prog X.w) X.A (f (.int i t) (.int j u)) Q E s) :
  xp X f (rI C fun i j=>.int (g i j)):=by
 intro c_ s σ H x y v u Q I rx ry h
 obtain⟨i,j,rfl,rfl,hc,q⟩:=h
 obtain⟨t,rfl⟩:=rx
 obtain⟨t',rfl⟩:=ry
 exact rule i j t t' s _ _ hc ⟨.int (g i j),H,I.tok _,⟨_,rfl⟩,q⟩
theorem QV{f:Value→Value→Sem Value}{g:Int→Int→Int}
  (rule:∀(i j:Int)(t u:Tok)(s:Shared)(Q:Qqq)(E:Qqq),Q (.int (g i j) s.toks) {s with toks:=s.toks+1}→wpAny (model X.prog X.w) X.A (f (.int i t) (.int j u)) Q E s) :
  xp X f (MS fun i j=>.int (g i j)):=by
 intro c_ s σ H x y v u Q I rx ry h
 obtain⟨i,j,rfl,rfl,q⟩:=h
 obtain⟨t,rfl⟩:=rx
 obtain⟨t',rfl⟩:=ry
 exact rule i j t t' s _ _ ⟨.int (g i j),H,I.tok _,⟨_,rfl⟩,q⟩
theorem Lk{f:Value→Value→Sem Value}{g:Int→Int→Bool}
  (rule:∀(i j:Int)(t u:Tok)(s:Shared)(Q:Qqq)(E:Qqq),Q (.bool (g i j)) s→wpAny (model X.prog X.w) X.A (f (.int i t) (.int j u)) Q E s) :
  xp X f (MS fun i j=>.bl (g i j)):=by
 intro c_ s σ H x y v u Q I rx ry h
 obtain⟨i,j,rfl,rfl,q⟩:=h
 obtain⟨t,rfl⟩:=rx
 obtain⟨t',rfl⟩:=ry
 exact rule i j t t' s _ _ ⟨.bl (g i j),H,I,rfl,q⟩
def U8(i j:Int):Prop:=0<j∧j<1073741824
def NV(i j:Int):Prop:=(-(2 ^ 64)<i∧i<2 ^ 64)∨(-(2 ^ 64)<j∧j<2 ^ 64)
theorem NV.ok{i j:Int}(h:NV i j):IntMulOk i j:=by
 rcases h with⟨h1,h2⟩|⟨h1,h2⟩
 ·exact .of_left (intBits_le_64 h1 h2)
 ·exact .of_right (intBits_le_64 h1 h2)
theorem iI:xp X (binaryOp .Add) (MS fun i j=>.int (i+j)):=QV fun _ _ _ _ _ _ _ q=>add_int q
theorem y8:xp X (binaryOp .Sub) (MS fun i j=>.int (i-j)):=QV fun _ _ _ _ _ _ _ q=>sub_int q
theorem rl:xp X (binaryOp .Mult) (rI NV fun i j=>.int (i*j)):=U7 fun _ _ _ _ _ _ _ hc q=>mul_int q hc.ok
theorem jX:xp X (binaryOp .FloorDiv) (rI U8 fun i j=>.int (i/j)):=U7 fun i j _ _ _ _ _ hc q=>by
 have h1:(0:Int)<j:=hc.1
 have h2:j<1073741824:=hc.2
 exact floordiv_int (by omega) (by rw[Int.fdiv_eq_ediv_of_nonneg i (by omega)];exact q) (.inl (PyProof.noPylong_small (by omega)))
theorem iJ:xp X (binaryOp .Mod) (rI (fun _ j=>0<j) fun i j=>.int (i%j)):=U7 fun i j _ _ _ _ _ hc q=>by
 have h1:(0:Int)<j:=hc
 exact mod_int' (by omega) (by rw[Int.fmod_eq_emod_of_nonneg i (by omega)];exact q)
theorem unI{f:Value→Sem Value}{g:Int→Int}
  (rule:∀(i:Int)(t:Tok)(s:Shared)(Q:Qqq)(E:Qqq),Q (.int (g i) s.toks) {s with toks:=s.toks+1}→wpAny (model X.prog X.w) X.A (f (.int i t)) Q E s) :
  U5 X f (rU fun i=>.int (g i)):=by
 intro c_ s σ H x v Q I rx h
 obtain⟨i,rfl,q⟩:=h
 obtain⟨t,rfl⟩:=rx
 exact rule i t s _ _ ⟨.int (g i),H,I.tok _,⟨_,rfl⟩,q⟩
theorem rm:U5 X (unaryOp .USub) (rU fun i=>.int (-i)):=unI fun _ _ _ _ _ q=>neg_int q
end
noncomputable def NW:V→V→Bool
 | .jl,.jl=>true|.jl,.int _=>true|.int _,.jl=>true|.jl,.bl _=>true|.bl _,.jl=>true|.jl,.str _=>true|.str _,.jl=>true
 | .int _,.int _=>true|.bl _,.bl _=>true|.str _,.str _=>true|.E4 _,.E4 _=>true
 | .int _,.str _=>true|.str _,.int _=>true|.bl _,.str _=>true|.str _,.bl _=>true
 | _,_=>false
noncomputable def rEq:R2:=fun x y H Q=>NW x y=true∧Q (.bl (decide (x=y))) H
noncomputable def rNe:R2:=fun x y H Q=>NW x y=true∧Q (.bl (!decide (x=y))) H
theorem Gm{i j:Int}:decide (V.int i=V.int j)=(i ==j):=by
 rw[abl]
 simp
theorem IF{i j:Bool}:decide (V.bl i=V.bl j)=(i ==j):=by
 rw[abl]
 simp
theorem Gn{i j:Str}:decide (V.str i=V.str j)=(i ==j):=by
 rw[abl]
 simp
theorem Gp{i j:Array UInt8}:decide (V.E4 i=V.E4 j)=(i.toList ==j.toList):=by
 rw[abl]
 cases i
 cases j
 simp
section
variable{X:Cx}{a b c:Expr}{ta tb tc:TE}{pos:Pos}
theorem iP{c_:Qqz}{σ:St}{H:Hp}{s:Shared}{Q:VK}{k k':Bool}(I:Inv X c_ σ H s)(q:Q (.bl k) H)(e:k=k'):EP X c_ σ Q (.bool k') s:=by
 subst e
 exact⟨.bl k,H,I,rfl,q⟩
theorem lX:xp X (compareOp .Eq) rEq:=by
 intro c_ s σ H x y v u Q I rx ry h
 obtain⟨hs,q⟩:=h
 cases x with
 | jl=>
  cases rx
  cases y with
  | jl=>cases ry;exact PySem.EqNone.eq_none_none (iP I q (by simp))
  | bl j=>cases ry;exact PySem.EqNone.eq_none_bool (iP I q (by simp))
  | int j=>obtain⟨t',rfl⟩:=ry;exact PySem.EqNone.eq_none_int (iP I q (by simp))
  | str j=>obtain⟨t',rfl⟩:=ry;exact PySem.EqNone.eq_none_str (iP I q (by simp))
  | _=>exact absurd (show false=true from hs) aad
 | bl i=>
  cases rx
  cases y with
  | jl=>cases ry;exact PySem.EqNone.eq_bool_none (iP I q (by simp))
  | bl j=>cases ry;exact eq_bool (iP I q IF)
  | str j=>obtain⟨t',rfl⟩:=ry;exact PySem.EqMixed.eq_bool_str (iP I q (by simp))
  | _=>exact absurd (show false=true from hs) aad
 | int i=>
  obtain⟨t,rfl⟩:=rx
  cases y with
  | jl=>cases ry;exact PySem.EqNone.eq_int_none (iP I q (by simp))
  | int j=>obtain⟨t',rfl⟩:=ry;exact eq_int (iP I q Gm)
  | str j=>obtain⟨t',rfl⟩:=ry;exact PySem.EqMixed.eq_int_str (iP I q (by simp))
  | _=>exact absurd (show false=true from hs) aad
 | str i=>
  obtain⟨t,rfl⟩:=rx
  cases y with
  | jl=>cases ry;exact PySem.EqNone.eq_str_none (iP I q (by simp))
  | bl j=>cases ry;exact PySem.EqMixed.eq_str_bool (iP I q (by simp))
  | int j=>obtain⟨t',rfl⟩:=ry;exact PySem.EqMixed.eq_str_int (iP I q (by simp))
  | str j=>obtain⟨t',rfl⟩:=ry;exact eq_str (iP I q Gn)
  | _=>exact absurd (show false=true from hs) aad
 | E4 i=>
  obtain⟨t,rfl⟩:=rx
  cases y with
  | E4 j=>obtain⟨t',rfl⟩:=ry;exact W.eq_bytes (iP I q Gp)
  | _=>exact absurd (show false=true from hs) aad
 | _=>cases y<;>exact absurd (show false=true from hs) aad
theorem Du:xp X (compareOp .NotEq) rNe:=by
 intro c_ s σ H x y v u Q I rx ry h
 obtain⟨hs,q⟩:=h
 cases x with
 | jl=>
  cases rx
  cases y with
  | jl=>cases ry;exact PySem.EqNone.ne_none_none (iP I q (by simp))
  | bl j=>cases ry;exact PySem.EqNone.ne_none_bool (iP I q (by simp))
  | int j=>obtain⟨t',rfl⟩:=ry;exact PySem.EqNone.ne_none_int (iP I q (by simp))
  | str j=>obtain⟨t',rfl⟩:=ry;exact PySem.EqNone.ne_none_str (iP I q (by simp))
  | _=>exact absurd (show false=true from hs) aad
 | bl i=>
  cases rx
  cases y with
  | jl=>cases ry;exact PySem.EqNone.ne_bool_none (iP I q (by simp))
  | bl j=>cases ry;exact ne_bool (iP I q (aa2 not IF))
  | str j=>obtain⟨t',rfl⟩:=ry;exact PySem.EqMixed.ne_bool_str (iP I q (by simp))
  | _=>exact absurd (show false=true from hs) aad
 | int i=>
  obtain⟨t,rfl⟩:=rx
  cases y with
  | jl=>cases ry;exact PySem.EqNone.ne_int_none (iP I q (by simp))
  | int j=>obtain⟨t',rfl⟩:=ry;exact ne_int (iP I q (aa2 not Gm))
  | str j=>obtain⟨t',rfl⟩:=ry;exact PySem.EqMixed.ne_int_str (iP I q (by simp))
  | _=>exact absurd (show false=true from hs) aad
 | str i=>
  obtain⟨t,rfl⟩:=rx
  cases y with
  | jl=>cases ry;exact PySem.EqNone.ne_str_none (iP I q (by simp))
  | bl j=>cases ry;exact PySem.EqMixed.ne_str_bool (iP I q (by simp))
  | int j=>obtain⟨t',rfl⟩:=ry;exact PySem.EqMixed.ne_str_int (iP I q (by simp))
  | str j=>obtain⟨t',rfl⟩:=ry;exact ne_str (iP I q (aa2 not Gn))
  | _=>exact absurd (show false=true from hs) aad
 | E4 i=>
  obtain⟨t,rfl⟩:=rx
  cases y with
  | E4 j=>obtain⟨t',rfl⟩:=ry;exact W.ne_bytes (iP I q (aa2 not Gp))
  | _=>exact absurd (show false=true from hs) aad
 | _=>cases y<;>exact absurd (show false=true from hs) aad
theorem Gq:xp X (compareOp .Lt) (MS fun i j=>.bl (decide (i<j))):=Lk fun _ _ _ _ _ _ _ q=>lt_int q
theorem IG:xp X (compareOp .LtE) (MS fun i j=>.bl (decide (i≤j))):=Lk fun _ _ _ _ _ _ _ q=>le_int q
theorem Ba:xp X (compareOp .Gt) (MS fun i j=>.bl (decide (j<i))):=Lk fun _ _ _ _ _ _ _ q=>gt_int q
theorem QW:xp X (compareOp .GtE) (MS fun i j=>.bl (decide (j≤i))):=Lk fun _ _ _ _ _ _ _ q=>ge_int q
theorem BW:xp X (compareOp .NotIn) (fun x y H Q=>∃i j,x=.str i∧y=.str j∧Q (.bl (!(!(Builtin.Str.occurrences j i 0 j.length 1).isEmpty))) H):=by
 intro c_ s σ H x y v u Q I rx ry h
 obtain⟨i,j,rfl,rfl,q⟩:=h
 obtain⟨t,rfl⟩:=rx
 obtain⟨t',rfl⟩:=ry
 exact notIn_str (iP I q rfl)
theorem iA(b:Expr){op:CmpOp}(h:op≠.In:=by decide)(h2:op≠.NotIn:=by decide):behindInMarks op b=false:=by
 have e1:(op ==CmpOp.In)=false:=by cases op<;>first|rfl|exact absurd rfl h
 have e2:(op ==CmpOp.NotIn)=false:=by cases op<;>first|rfl|exact absurd rfl h2
 cases b<;>simp[behindInMarks,e1,e2]
theorem Ll{op:CmpOp}{r:R2}(ho:xp X (compareOp op) r)(ha:PE X a ta)(hb:PE X b tb)(hm:behindInMarks op b=false):PE X (.Compare a [op] [b] pos) (QU r ta tb):=by
 intro c_ s σ H Q I h
 exact wpAny_Compare1 (NU ha hb I h fun v u s2 x y H2 I2 rx ry q=>ho c_ s2 σ H2 x y v u Q I2 rx ry q) hm
def MT(t:TE):TT:=fun σ H Q=>t σ H fun x H'=>∃k,x=.bl k∧Q k H'
theorem ib{op:CmpOp}{r:R2}(ho:xp X (compareOp op) r)(ha:PE X a ta)(hb:PE X b tb)(hm:behindInMarks op b=false):PT X (.Compare a [op] [b] pos) (MT (QU r ta tb)):=by
 intro c_ s σ H Q I h
 refine wpAny_isTrue_Compare1 (iS (ha c_ s σ H _ I h) fun v s1 ⟨x,H1,I1,r1,q1⟩=>iS (hb c_ s1 σ H1 _ I1 q1) fun u s2 ⟨y,H2,I2,r2,q2⟩=>
  iS (ho c_ s2 σ H2 x y v u _ I2 r1 r2 q2) fun c s3 ⟨z,H3,I3,r3,k,e,q3⟩=>?_) hm
 subst e
 cases r3
 exact abv ⟨H3,I3,q3⟩
def NX(r r':R2)(ta tb tc:TE):TE:=fun σ H Q=>ta σ H fun x H1=>tb σ H1 fun y H2=>r x y H2 fun z H3=>∃k,z=.bl k∧
 (if k=true then tc σ H3 fun w' H4=>r' y w' H4 Q else Q (.bl false) H3)
theorem Dw{op VP:CmpOp}{r r':R2}(ho:xp X (compareOp op) r)(qF:xp X (compareOp VP) r')(ha:PE X a ta)(hb:PE X b tb)(hc:PE X c tc)
  (hm:lastMarks [op,VP] [b,c]=false:=by with_unfolding_all rfl):PT X (.Compare a [op,VP] [b,c] pos) (MT (NX r r' ta tb tc)):=by
 intro c_ s σ H Q I h
 refine isTrue_chain (iS (ha c_ s σ H _ I h) fun v s1 ⟨x,H1,I1,r1,q1⟩=>test_link (iS (hb c_ s1 σ H1 _ I1 q1) fun u s2 ⟨y,H2,I2,r2,q2⟩=>
  iS (ho c_ s2 σ H2 x y v u _ I2 r1 r2 q2) fun d s3 ⟨z,H3,I3,r3,k,e,q3⟩=>?_)) hm
 subst e
 cases r3
 refine abv ?_
 cases k with
 | false=>
  obtain⟨k',e',q'⟩:=q3
  cases e'
  exact ite_ff ⟨H3,I3,q'⟩
 | true=>
  refine ite_tt (test_last (iS (hc c_ s3 σ H3 _ I3 q3) fun w' s4 ⟨z',H4,I4,r4,q4⟩=>iS (qF c_ s4 σ H4 y z' u w' _ I4 r2 r4 q4) fun d' s5 ⟨z2,H5,I5,r5,k2,e2,q5⟩=>?_))
  subst e2
  cases r5
  exact abv ⟨H5,I5,q5⟩
def QX(K:Qqy)(x:V)(H:Hp)(k:Bool):Prop:=
 match x with
 | .jl=>k=false
 | .bl b=>k=b
 | .int i=>k=(i != 0)
 | .str y=>y.length≤sizeLine∧k=((y.length:Int) != 0)
 | .E4 y=>y.size≤sizeLine∧k=((y.size:Int) != 0)
 | .ref p=>(∃xs,gF K H p xs∧k=!xs.isEmpty)∨(∃xs,rg K H p xs∧k=!xs.isEmpty)∨∃kvs,H p=some (.dK kvs)∧k=!kvs.isEmpty
 | _=>False
theorem E6{κ:Type}{kvs:List (κ×V)}{vs:List (κ×Value)}(r:KV kvs vs):(!vs.isEmpty)=!kvs.isEmpty:=by
 cases r<;>rfl
theorem y9{xs:List V}{gK:List Value}(r:Vals xs gK):(!gK.toArray.isEmpty)=!xs.isEmpty:=by
 cases r<;>simp
theorem ua:(sizeLine:Nat)<2 ^ 63:=by rw[sizeLine_eq];decide
theorem NY:U6 X (fun x H Q=>∃k,QX X.K x H k∧Q k H):=by
 intro c_ s σ H x v Q I rx h
 obtain⟨k,e,q⟩:=h
 have hl:=ua
 have hs:sizeLine=16777216:=sizeLine_eq
 cases x with
 | jl=>
  cases rx
  have e':k=false:=e
  subst e'
  exact truthy_none ⟨H,I,q⟩
 | bl b=>
  cases rx
  have e':k=b:=e
  subst e'
  exact abv ⟨H,I,q⟩
 | int i=>
  obtain⟨t,rfl⟩:=rx
  have e':k=(i != 0):=e
  subst e'
  exact PySem.P.truthy_int ⟨H,I,q⟩
 | str y=>
  obtain⟨t,rfl⟩:=rx
  obtain⟨hy,e'⟩:y.length≤sizeLine∧k=((y.length:Int) != 0):=e
  subst e'
  exact PySem.P.truthy_str (by omega) ⟨H,I.tok _,q⟩
 | E4 y=>
  obtain⟨t,rfl⟩:=rx
  obtain⟨hy,e'⟩:y.size≤sizeLine∧k=((y.size:Int) != 0):=e
  subst e'
  exact W.truthy_bytes (by omega) ⟨H,I.tok _,q⟩
 | ref p=>
  cases rx
  have e':(∃xs,gF X.K H p xs∧k=!xs.isEmpty)∨(∃xs,rg X.K H p xs∧k=!xs.isEmpty)∨∃kvs,H p=some (.dK kvs)∧k=!kvs.isEmpty:=e
  rcases e' with⟨xs,hx,e'⟩|⟨xs,hx,e'⟩|⟨kvs,hx,e'⟩
  ·subst e'
   obtain⟨gK,r,pl,hz⟩:=I.list hx
   have hlen:=r.length
   exact wpAny_truthy_list pl.isList (by simp only [YM];omega) ⟨H,I.tok _,by rw[y9 r];exact q⟩
  ·subst e'
   obtain⟨gK,r,pl,hz⟩:=I.tuple hx
   have hlen:=r.length
   exact truthy_tuple pl (by simp only [YM];omega) ⟨H,I.tok _,by rw[y9 r];exact q⟩
  ·subst e'
   obtain⟨hz,hS,vs,r,m⟩:kvs.length≤sizeLine∧(p ==sysModules)=false∧∃vs,KV kvs vs∧s.heap.DictOf (ja X.prog X.w) p vs:=I.iG p _ hx
   have hlen:kvs.length=vs.length:=aan r
   exact wpAny_truthy_dict hS m (by omega) ⟨H,I.tok _,by rw[E6 r];exact q⟩
 | _=>exact(show False from e).elim
theorem uM(ha:PE X a ta)(he:∀whole,isTrue a X.env whole=(do let v ←whole;standAt a.pos;holding [v] (truthy v))) :
  PT X a (fun σ H Q=>ta σ H fun x H'=>∃k,QX X.K x H' k∧Q k H'):=by
 intro c_ s σ H Q I h
 exact isTrue_plain (iS (ha c_ s σ H _ I h) fun v s1 ⟨x,H1,I1,r1,q1⟩=>NY c_ s1 σ H1 x v Q I1 r1 q1) (he _)
theorem y_:xp X (binaryOp .Add) (fun x y H Q=>∃i j,x=.str i∧y=.str j∧i.length+j.length≤sizeLine∧Q (.str (i++j)) H):=by
 intro c_ s σ H x y v u Q I rx ry h
 obtain⟨i,j,rfl,rfl,hz,q⟩:=h
 obtain⟨t,rfl⟩:=rx
 obtain⟨t',rfl⟩:=ry
 exact add_str (fun t' tk=>⟨.str (i++j),H,I.tok _,⟨_,rfl⟩,q⟩) hz
theorem vals1{x:V}{us:List Value}(r:Vals [x] us):∃u,us=[u]∧RelV x u:=by
 cases r with
 | cons r1 r2=>cases r2;exact⟨_,rfl,r1⟩
theorem vals2{x y:V}{us:List Value}(r:Vals [x,y] us):∃u w',us=[u,w']∧RelV x u∧RelV y w':=by
 cases r with
 | cons r1 r2=>
  cases r2 with
  | cons r3 r4=>cases r4;exact⟨_,_,rfl,r1,r3⟩
theorem He(hc:X.calm=true):uL X (.builtin "max") (fun xs H Q=>∃i j,xs=[.int i,.int j]∧Q (.int (if j>i then j else i)) H):=by
 intro c_ s σ H xs us Q I r h
 obtain⟨i,j,rfl,q⟩:=h
 obtain⟨u,w',rfl,⟨t,rfl⟩,⟨t',rfl⟩⟩:=vals2 r
 refine max_two_ints (I.ok.hd hc) fun h' tk k=>⟨_,H,I.kept k,?_,q⟩
 by_cases hj:j>i
 ·rw[aaq hj,aaq hj];exact⟨_,rfl⟩
 ·rw[aal hj,aal hj];exact⟨_,rfl⟩
end
structure E7(h:Heap)(x dx C:Addr)(mA:Qqx):Prop where
 obj:h.get? x=some (W.instObj C dx)
 ns:h.Ns1 dx mA
 ne:dx≠x
theorem Hf{h:Heap}{dx:Addr}{mA:Qqx}(n:h.Ns1 dx mA):∃od,h.get? dx=some od∧∀name,W.lookIn name od=some (mA name):=by
 obtain⟨o,es,ep,ho,hd,hk,_,hm⟩:=n
 refine⟨o,ho,fun name=>?_⟩
 have e:=hm name
 unfold nsFind findBy at e
 rw[←Array.find?_toList] at e
 unfold W.lookIn
 rw[hd]
 dsimp only
 split
 ·rename_i y q
  rw[q] at e
  exact aa2 some e
 ·rename_i q
  rw[q] at e
  have a:es.toList.any (·.refKey)=false:=by
   rw[List.any_eq_false]
   intro y hy
   obtain⟨z,t,Pd⟩:=hk y (Array.mem_toList_iff.mp hy)
   simp[DictEntry.refKey,Pd]
  have a':¬es.toList.any (·.refKey)=true:=by rw[a];exact aad
  rw[aal a']
  exact aa2 some e
theorem E7.look{h:Heap}{x dx C:Addr}{mA:Qqx}(I:E7 h x dx C mA):∃od,W.InstAt h x (W.instObj C dx) C (some od)∧∀name,W.lookIn name od=some (mA name):=
 let ⟨od,ho,hl⟩:=Hf I.ns
 ⟨od,⟨I.obj,rfl,rfl,ho⟩,hl⟩
section
variable{prog:Program}{w:World}{A:Around}{E:Qqq}{s:Shared}{K:Qqy}{x dx C f:Addr}{mA:Qqx}{name:Str}{v:Value}
theorem get_map{expr:Bool}{Q:Qqq}(X:K.In s.heap)(I:E7 s.heap x dx C mA)(hg:W.plainGet K C name=true)(hh:W.hasDictIn K C=true)
  (ha:W.findIn K (.ref C) name=some none) (hv:mA name=some v) (hv':W.handedIn v=true) (h:Q v {s with toks:=s.toks+1}) :
  wpAny (model prog w) A (getAttr (.ref x) name expr) Q E s:=by
 obtain⟨od,J,hl⟩:=I.look
 exact W.get_value X J (W.plainGet_of hg).1 (W.findObj_own hh ha rfl (by rw[hl,hv])) hv' h
theorem IH{pl:Sem Bool}{Q:Value×List Value→Shared→Prop}(X:K.In s.heap)(I:E7 s.heap x dx C mA)(hg:W.plainGet K C name=true)
  (hf:W.findIn K (.ref C) name=some (some (.ref f))) (ht:W.isFn K (.ref f)=true) (hv:mA name=none) (h:Q (.ref f,[.ref x]) s) :
  wpAny (model prog w) A (getMethod (.ref x) name pl) Q E s:=by
 obtain⟨od,J,hl⟩:=I.look
 exact W.method_fn X J (W.plainGet_of hg).1 (W.plainGet_of hg).2 hf (abK.mp ht) (by show(W.lookIn name od).map (·.isSome)=some false;rw[hl,hv];rfl) h
theorem Lm{ns:List Str}{Q:Unit→Shared→Prop}(X:K.In s.heap)(I:E7 s.heap x dx C mA)
  (hs:W.findIn K (.ref C) "__setattr__"=some (some (.builtin "object.__setattr__"))) (hp:W.plainOver K C=true) (ht:W.takerIn K C name=some none) (hh:W.hasDictIn K C=true)
  (hw:PySem.Within mA ns) (hsz:ns.length≤sizeLine)
  (h:∀h',E7 h' x dx C (fun y=>if y=name then some v else mA y)→Heap.SameBut dx s.heap h'→Q () {s with heap:=h',toks:=s.toks+2}) :
  wpAny (model prog w) A (setAttr (.ref x) name v) Q E s:=by
 obtain⟨od,J,hl⟩:=I.look
 refine W.set_plain X J hs (W.osa_open (s:={s with toks:=s.toks+1}) (r:=none) X J hp ht fun b=>?_)
 obtain⟨cd,hc,VM⟩:=W.any_some hh
 have hx:s.heap.get? x=some ⟨.ref C,some dx,.plain,#[]⟩:=I.obj
 refine Ss (aai (Ss (Ss (wpAny_loadPart hx (Ss (W.Looks.here (s:={s with toks:=s.toks+1}) (W.looks_clsIn X hc) ?_))))))
 rw[VM]
 refine aai (a:=some dx) (Ss (aai (Ss ?_)))
 refine wpAny_nsSet1 (s:={s with toks:=s.toks+1}) I.ns fun h' Pe Ip=>?_
 obtain⟨oD,esD,epD,hoD,hdD,Qi⟩:=Pe.count (PySem.Within.cons name v hw)
 refine Ss (wpAny_lookBehind hoD (by rw[hdD];exact pastItsLine_dict (aac Qi (by rw[aaf];omega))) ?_)
 exact aai (h _ ⟨(Ip.2 _ (abF I.ne)).trans I.obj,Pe,I.ne⟩ Ip)
theorem II{R:Result→Shared→Prop}{vs:List Value}{kw:List (Str×Value)}(X:K.In s.heap)(hm:W.makesIn K C=true)
  (hi:W.findIn K (.ref C) "__init__"=some (some (.ref f))) (hf:W.typeIn K (.ref f)=some (.type "function"))
  (h:codeAny (model prog w) (A.under (.builtin "type.__call__" ⟨.ref C::vs,kw⟩)) (.call (.ref f) ⟨.ref (s.heap.objs.size+1)::vs,kw⟩) (W.InitBack (s.heap.objs.size+1) R)
   {s with heap:=(s.heap.push W.emptyDict).push (W.instObj C s.heap.objs.size)}) :
  codeAny (model prog w) A (.call (.ref C) ⟨vs,kw⟩) R s:=by
 obtain⟨hh,g,d,t,os⟩:=s
 exact W.make_core (W.makes_of X hm) (W.looks_findIn X hi) (fun self=>W.bind_fn X self hf) (.inl rfl) h
end
noncomputable def jB(f:Str)(v:V):List (Str×V)→List (Str×V)
 | []=>[(f,v)]
 | (g,x)::r=>if g=f then(g,v)::r else(g,x)::jB f v r
theorem xr(f g:Str)(v:V):∀fs:List (Str×V),(jB f v fs).lookup g=if g=f then some v else fs.lookup g
 | []=>by
  show List.lookup g [(f,v)]=_
  by_cases h:g=f
  ·have hb:(g ==f)=true:=abK.mpr h
   simp only [List.lookup,hb,aaq h]
  ·have hb:(g ==f)=false:=beq_eq_false_iff_ne.mpr h
   simp only [List.lookup,hb,aal h]
 | (k,x)::r=>by
  have ih:=xr f g v r
  rw[show jB f v ((k,x)::r)=(if k=f then(k,v)::r else(k,x)::jB f v r) from rfl]
  by_cases hk:k=f
  ·rw[aaq hk]
   by_cases h:g=k
   ·have hb:(g ==k)=true:=abK.mpr h
    simp only [List.lookup,hb,aaq (h.trans hk)]
   ·have hb:(g ==k)=false:=beq_eq_false_iff_ne.mpr h
    simp only [List.lookup,hb,aal (fun e:g=f=>h (e.trans hk.symm))]
  ·rw[aal hk]
   by_cases h:g=k
   ·have hb:(g ==k)=true:=abK.mpr h
    simp only [List.lookup,hb,aal (fun e:g=f=>hk (h.symm.trans e))]
   ·have hb:(g ==k)=false:=beq_eq_false_iff_ne.mpr h
    simp only [List.lookup,hb]
    exact ih
theorem vZ(f:Str)(v:V):∀fs:List (Str×V),f∈(jB f v fs).map (·.1)∧∀g,g∈fs.map (·.1)→g∈(jB f v fs).map (·.1)
 | []=>⟨by simp[jB],fun g h=>by simp at h⟩
 | (k,x)::r=>by
  obtain⟨i1,i2⟩:=vZ f v r
  rw[show jB f v ((k,x)::r)=(if k=f then(k,v)::r else(k,x)::jB f v r) from rfl]
  by_cases hk:k=f
  ·rw[aaq hk]
   subst hk
   exact⟨by simp,fun g h=>by simpa using h⟩
  ·rw[aal hk]
   refine⟨?_,fun g h=>?_⟩
   ·rw[aaw]
    exact aaj _ i1
   ·rw[aaw] at h ⊢
    rcases Wg.mp h with e|e
    ·exact Wg.mpr (.inl e)
    ·exact aaj _ (i2 g e)
theorem xt(f:Str)(v:V):∀fs:List (Str×V),(jB f v fs).length≤fs.length+1
 | []=>by simp[jB]
 | (k,x)::r=>by
  have ih:=xt f v r
  rw[show jB f v ((k,x)::r)=(if k=f then(k,v)::r else(k,x)::jB f v r) from rfl]
  by_cases hk:k=f
  ·rw[aaq hk,aaf,aaf];omega
  ·rw[aal hk,aaf,aaf];omega
theorem pk.some_of{v:V}{o:Option Value}(r:pk (some v) o):∃u,o=some u∧RelV v u:=by
 cases o with
 | none=>exact(show False from r).elim
 | some u=>exact⟨u,rfl,r⟩
theorem pk.none_of{o:Option Value}(r:pk none o):o=none:=by
 cases o with
 | none=>rfl
 | some u=>exact(show False from r).elim
theorem Hg{v:V}{u:Value}(r:RelV v u):W.handedIn u=true:=by
 cases v with
 | jl=>cases (show u=Value.none from r);rfl
 | bl b=>cases (show u=Value.bool b from r);rfl
 | int i=>obtain⟨t,e⟩:=(show ∃t,u=Value.int i t from r);cases e;rfl
 | str x=>obtain⟨t,e⟩:=(show ∃t,u=Value.str x t from r);cases e;rfl
 | E4 b=>obtain⟨t,e⟩:=(show ∃t,u=Value.bytes b t from r);cases e;rfl
 | MP b=>obtain⟨t,e⟩:=(show ∃t,u=Value.float b t from r);cases e;rfl
 | ref a=>cases (show u=Value.ref a from r);rfl
 | ty n=>cases (show u=Value.type n from r);rfl
section
variable{P:Program}{w:World}{H H':Hp}{h h':Heap}{a C dx:Addr}{fs fs':List (Str×V)}
theorem yP(iG:qO P w H h)(e:H a=some (.ins C dx fs)):∃mA,E7 h a dx C mA∧(∀f,pk (fs.lookup f) (mA f))∧PySem.Within mA (fs.map (·.1))∧fs.length≤1000∧H dx=some (.own a):=by
 obtain⟨d,z,ne,ob,mA,n,r,q⟩:=(show i3 P w H h a (.ins C dx fs) from iG a _ e)
 exact⟨mA,⟨ob,n,ne⟩,r,q,z,d⟩
end
structure EY(K:Qqy)(C:Addr):Prop where
 pg:W.plainGet K C Str.empty=true
 hd:W.hasDictIn K C=true
 po:W.plainOver K C=true
 sa:W.findIn K (.ref C) "__setattr__"=some (some (.builtin "object.__setattr__"))
theorem EY.get{K:Qqy}{C:Addr}(c:EY K C)(f:Str):W.plainGet K C f=true:=c.pg
def jO(K:Qqy)(C:Addr)(f:Str):Prop:=W.findIn K (.ref C) f=some none
theorem jO.QY{K:Qqy}{C:Addr}{f:Str}(n:jO K C f):W.takerIn K C f=some none:=by
 unfold W.takerIn
 rw[show W.findIn K (.ref C) f=some none from n]
 rfl
structure Meth(K:Qqy)(C:Addr)(m:Str)(f:Addr):Prop where
 at_:W.findIn K (.ref C) m=some (some (.ref f))
 fn:W.isFn K (.ref f)=true
 kp:W.keepIn K (.ref f)=true
section
variable{X:Cx}{c_:Qqz}{σ:St}{H:Hp}{s:Shared}{a C dx:Addr}{fs:List (Str×V)}{f:Str}{v:V}{A:Around}{E:Qqq}
theorem E8{b:Bool}{Q:Qqq}(I:Inv X c_ σ H s)(e:H a=some (.ins C dx fs))(c:EY X.K C)(n:jO X.K C f)(l:fs.lookup f=some v)
  (h:∀u s',Inv X c_ σ H s'→RelV v u→Q u s'):wpAny (model X.prog X.w) A (getAttr (.ref a) f b) Q E s:=by
 obtain⟨mA,O,r,_,_,_⟩:=yP I.iG e
 obtain⟨u,hu,ru⟩:=pk.some_of (v:=v) (o:=mA f) (by rw[←l];exact r f)
 exact get_map I.xo O (c.get f) c.hd n hu (Hg ru) (h u _ (I.tok _) ru)
theorem za{m:Str}{g:Addr}{pl:Sem Bool}{Q:Value×List Value→Shared→Prop}(I:Inv X c_ σ H s)(e:H a=some (.ins C dx fs))(c:EY X.K C)(k:Meth X.K C m g)(l:fs.lookup m=none)
  (h:Q (.ref g,[.ref a]) s):wpAny (model X.prog X.w) A (getMethod (.ref a) m pl) Q E s:=by
 obtain⟨mA,O,r,_,_,_⟩:=yP I.iG e
 have hn:mA m=none:=pk.none_of (by rw[←l];exact r m)
 exact IH I.xo O (c.get m) k.at_ k.fn hn h
theorem E9{y:V}{u:Value}{Q:Unit→Shared→Prop}(I:Inv X c_ σ H s)(e:H a=some (.ins C dx fs))(c:EY X.K C)(n:jO X.K C f)(hl:fs.length<1000)(ry:RelV y u)
  (h:∀s',Inv X c_ σ (upd H a (.ins C dx (jB f y fs))) s'→Q () s'):wpAny (model X.prog X.w) A (setAttr (.ref a) f u) Q E s:=by
 obtain⟨mA,O,r,wi,_,ho⟩:=yP I.iG e
 have hz:(fs.map (·.1)).length≤sizeLine:=by rw[So,sizeLine_eq];omega
 refine Lm I.xo O c.sa c.po n.QY c.hd wi hz fun h' O' sb=>h _ ?_
 have hd:∃o,h'.get? dx=some o:=let ⟨o,_,_,e',_⟩:=O'.ns;⟨o,e'⟩
 refine I.write (x:=a) (e:=dx) (by rw[e];exact True.intro) (.inr ho) (fun b q hb z=>(sb.2 b hb).trans z) hd ?_
 refine⟨by rw[e_ O.ne];exact ho,?_,O.ne,O'.obj,_,O'.ns,fun g=>?_,fun g hg=>?_⟩
 ·have:=xt f y fs;omega
 ·show pk ((jB f y fs).lookup g) (if g=f then some u else mA g)
  rw[xr]
  by_cases q:g=f
  ·rw[aaq q,aaq q];exact ry
  ·rw[aal q,aal q];exact r g
 ·by_cases q:g=f
  ·rw[q];exact(vZ f y fs).1
  ·refine(vZ f y fs).2 g (wi g fun z=>hg ?_)
   show(if g=f then some u else mA g)=none
   rw[aal q];exact z
theorem Inv.made(I:Inv X c_ σ H s):Inv X c_ σ (upd (upd H s.heap.objs.size (.own (s.heap.objs.size+1))) (s.heap.objs.size+1) (.ins C s.heap.objs.size []))
  {s with heap:=(s.heap.push W.emptyDict).push (W.instObj C s.heap.objs.size)}:=by
 have e1:(s.heap.push W.emptyDict).get? s.heap.objs.size=some W.emptyDict:=aax s.heap rfl
 have e2:((s.heap.push W.emptyDict).push (W.instObj C s.heap.objs.size)).get? (s.heap.objs.size+1)=some (W.instObj C s.heap.objs.size):=by
  have:=aax (s.heap.push W.emptyDict) (o:=W.instObj C s.heap.objs.size) rfl
  rwa [abD] at this
 have e3:(s.heap.push W.emptyDict).Ns s.heap.objs.size (fun _=>none):=⟨W.emptyDict,#[],_,e1,rfl,(fun e he=>absurd he (by simp)),fun _=>rfl⟩
 have I1:=I.laid (a:=s.heap.objs.size) (o:=.own (s.heap.objs.size+1)) (h':=s.heap.push W.emptyDict) (t':=s.toks) (fun b u q=>YH _ q) (Vx _) ⟨_,e1⟩
 refine I1.laid (a:=s.heap.objs.size+1) (o:=.ins C s.heap.objs.size []) (t':=s.toks) (fun b u q=>YH _ q) (acj (abD _ _)) ?_
 have ne:s.heap.objs.size≠s.heap.objs.size+1:=aaN (abZ _)
 refine⟨by rw[e_ ne,b_],aaI _,ne,e2,fun _=>none,(Heap.Ns1.of_empty e3).at fun o q=>YH _ q,fun _=>True.intro,fun y hy=>absurd rfl hy⟩
theorem Lo{prog:Program}{w:World}{env:Env}{e:Expr}{f:Str}{pos:Pos}{s:Shared}{Q:Qqq}(hb:attributeBase e f env (eval e env)=eval e env)
  (h:wpAny (model prog w) A (eval e env) (fun o s₁=>wpAny (model prog w) A (getAttr o f true) Q E s₁) E s):wpAny (model prog w) A (eval (.Attribute e f pos) env) Q E s:=
 Attribute_any_ h (by rw[arm_eval_Attribute,hb])
end
def U9(K:Qqy)(ta:TE)(f:Str):TE:=fun σ H Q=>ta σ H fun x H1=>∃a C dx fs v,x=.ref a∧H1 a=some (.ins C dx fs)∧EY K C∧jO K C f∧fs.lookup f=some v∧Q v H1
def U_(K:Qqy)(ta tv:TE)(f:Str):TS:=fun D σ H=>tv σ H fun y H1=>ta σ H1 fun x H2=>∃a C dx fs,x=.ref a∧H2 a=some (.ins C dx fs)∧EY K C∧jO K C f∧fs.length<1000∧
 D.nx σ (upd H2 a (.ins C dx (jB f y fs)))
section
variable{X:Cx}{o e value:Expr}{f:Str}{pos pos' Pg:Pos}{ta tv:TE}
theorem gC(he:PE X e ta)(hb:attributeBase e f X.env (eval e X.env)=eval e X.env):PE X (.Attribute e f pos) (U9 X.K ta f):=by
 intro c_ s σ H Q I h
 refine Lo hb (iS (he c_ s σ H _ I h) fun u s1 ⟨x,H1,I1,rx,a,C,dx,fs,v,ex,ea,c,n,l,q⟩=>?_)
 subst ex
 obtain rfl:u=Value.ref a:=rx
 exact E8 I1 ea c n l fun u' s2 I2 ru=>⟨v,H1,I2,ru,q⟩
theorem lA(ha:PE X o ta)(hv:PE X value tv)(hs:swapsWith value (some (.Attribute o f pos')) pos.line X.env=pure false):PS X (.Assign [.Attribute o f pos'] value pos) (U_ X.K ta tv f):=by
 intro c_ s σ H D I h
 refine plainObj_wpAny_Assign_Attribute (iS (hv c_ s σ H _ I h) fun u s1 ⟨y,H1,I1,ry,q⟩=>iS (ha c_ s1 σ H1 _ I1 q) fun ov s2 ⟨x,H2,I2,rx,a,C,dx,fs,ex,ea,c,n,l,q2⟩=>?_) hs
 subst ex
 obtain rfl:ov=Value.ref a:=rx
 exact E9 I2 ea c n l ry fun s3 I3=>⟨σ,_,I3,q2⟩
end
section
variable{X:Cx}{c_:Qqz}{σ:St}{H:Hp}{s:Shared}{A:Around}{E:Qqq}{Q:Qqq}{c:Value}{b:Bool}
inductive v_(K:Qqy)(H:Hp):V→Value→Prop where
 | jl:v_ K H .jl (.type "NoneType")
 | bl (x:Bool):v_ K H (.bl x) (.type "bool")
 | int (i:Int):v_ K H (.int i) (.type "int")
 | str (x:Str):v_ K H (.str x) (.type "str")
 | MP (x:UInt64):v_ K H (.MP x) (.type "float")
 | lst {a:Addr} {xs:List V} (e:H a=some (.lst xs)):v_ K H (.ref a) (.type "list")
 | nc {a:Addr} {o:Obj} {xs:List V} (e:H a=some (.nc o (.lst xs))):v_ K H (.ref a) (.type "list")
 | tup {a:Addr} {xs:List V} (e:H a=some (.tup xs)):v_ K H (.ref a) (.type "tuple")
 | dK {a:Addr} {kvs:List (Key×V)} (e:H a=some (.dK kvs)):v_ K H (.ref a) (.type "dict")
 | dT {a:Addr} {kvs:List (List Key×V)} (e:H a=some (.dT kvs)):v_ K H (.ref a) (.type "dict")
 | ins {a C dx:Addr} {fs:List (Str×V)} (e:H a=some (.ins C dx fs)) (cl:EY K C) (ha:W.findIn K (.ref C) "__class__"=some (some (.builtin "object.__class__")))
  (hn:W.specialIn K (.builtin "object.__class__") "__get__"=some (some (.builtin "getset_descriptor.__get__"))) (YU:W.takesIn K (.builtin "object.__class__")=some true)
  (hm:W.mroIn K C (.type "object")=some true):v_ K H (.ref a) (.ref C)
theorem Hh{x:V}{u t:Value}(I:Inv X c_ σ H s)(rx:RelV x u)(ty:v_ X.K H x t)(e:W.kitOne X.K t c=some b)(h:∀tk,Q (.bool b) {s with toks:=tk}) :
  wpAny (model X.prog X.w) A (call (.builtin "isinstance") [u,c]) Q E s:=by
 cases ty with
 | jl=>cases (show u=Value.none from rx);exact abf W.kitx_none I.xo True.intro e (fun z=>nomatch z) h
 | bl y=>cases (show u=Value.bool y from rx);exact abf W.kitx_bool I.xo True.intro e (fun z=>nomatch z) h
 | int i=>obtain⟨t,q⟩:=(show ∃t,u=Value.int i t from rx);cases q;exact abf W.kitx_int I.xo True.intro e (fun z=>nomatch z) h
 | str y=>obtain⟨t,q⟩:=(show ∃t,u=Value.str y t from rx);cases q;exact abf W.kitx_str I.xo True.intro e (fun z=>nomatch z) h
 | MP y=>obtain⟨t,q⟩:=(show ∃t,u=Value.float y t from rx);cases q;exact abf W.kitx_float I.xo True.intro e (fun z=>nomatch z) h
 | @lst a xs ea=>
  cases (show u=Value.ref a from rx)
  obtain⟨_,_,n,_,h1⟩:=(show i3 X.prog X.w H s.heap a (.lst xs) from I.iG a _ ea)
  exact abf W.kitx_list I.xo ⟨_,h1,rfl⟩ e (fun z=>nomatch z) h
 | @nc a ob xs ea=>
  cases (show u=Value.ref a from rx)
  obtain⟨_,_,_,n,_,h1⟩:=(show i3 X.prog X.w H s.heap a (.nc ob (.lst xs)) from I.iG a _ ea)
  exact abf W.kitx_list I.xo ⟨_,h1,rfl⟩ e (fun z=>nomatch z) h
 | @tup a xs ea=>
  cases (show u=Value.ref a from rx)
  obtain⟨_,_,_,p⟩:=(show i3 X.prog X.w H s.heap a (.tup xs) from I.iG a _ ea)
  obtain⟨o,h1,h2,_⟩:=p
  exact abf W.kitx_tuple I.xo ⟨o,h1,h2⟩ e (fun z=>nomatch z) h
 | @dK a kvs ea=>
  cases (show u=Value.ref a from rx)
  obtain⟨_,_,vs,_,p⟩:=(show i3 X.prog X.w H s.heap a (.dK kvs) from I.iG a _ ea)
  obtain⟨o,es,ep,h1,h2,_⟩:=p
  exact abf W.kitx_dict I.xo ⟨o,h1,h2.1⟩ e (fun z=>nomatch z) h
 | @dT a kvs ea=>
  cases (show u=Value.ref a from rx)
  obtain⟨_,_,xs,_,o,es,ep,h1,h2,_⟩:=(show i3 X.prog X.w H s.heap a (.dT kvs) from I.iG a _ ea)
  exact abf W.kitx_dict I.xo ⟨o,h1,h2.1⟩ e (fun z=>nomatch z) h
 | @ins a C dx fs ea cl ha hn YU hm=>
  cases (show u=Value.ref a from rx)
  obtain⟨mA,O,_⟩:=yP I.iG ea
  obtain⟨od,J,_⟩:=O.look
  exact abf (W.kitx_own (cl.get _) cl.hd ha hn YU hm) I.xo J e (fun z=>nomatch z) h
end
structure ko(k:Nat)(A:Around):Prop where
 hd:A.handled=none
 dp:A.depth+3*k+5<recursionLimit
 un:A.units+16*k+200<cLine
theorem ko.mono{j k:Nat}{A:Around}(r:ko k A)(h:j≤k):ko j A:=⟨r.hd,by have:=r.dp;omega,by have:=r.un;omega⟩
theorem ko.deeper{k:Nat}{A:Around}(r:ko (k+1) A)(env:Env):ko k (A.deeper env):=
 ⟨r.hd,by have:=r.dp;show A.depth+1+3*k+5<_;omega,by have:=r.un;show A.units+3+16*k+200<_;omega⟩
theorem E_{A:Around}{C:Addr}{us:List Value}{kw:List (Str×Value)}:(A.under (.builtin "type.__call__" ⟨.ref C::us,kw⟩)).depth=A.depth+1:=by
 first|rfl|simp[Around.under,Code.weight,Code.isCreation,Code.isGuard,Code.isCaller,Code.frames,Code.isFrame,guardIds]
theorem Fb{A:Around}{C:Addr}{us:List Value}{kw:List (Str×Value)}:(A.under (.builtin "type.__call__" ⟨.ref C::us,kw⟩)).units=A.units+1:=by
 first|rfl|simp[Around.under,Code.cUnits,Code.frames,Code.isFrame]
theorem ko.make{k:Nat}{A:Around}(r:ko (k+1) A)(C:Addr)(us:List Value)(kw:List (Str×Value)):ko k (A.under (.builtin "type.__call__" ⟨.ref C::us,kw⟩)):=
 ⟨r.hd,by have:=r.dp;rw[E_];omega,by have:=r.un;rw[Fb];omega⟩
theorem ko.depth{k:Nat}{A:Around}(r:ko k A):A.depth<recursionLimit:=by have:=r.dp;omega
theorem ko.units{k:Nat}{A:Around}(r:ko k A):A.units+64<cLine:=by have:=r.un;omega
def NZ:TA:=fun _ H Q=>Q [] H
def QZ(ta:TE)(tr:TA):TA:=fun σ H Q=>ta σ H fun x H1=>tr σ H1 fun xs H2=>Q (x::xs) H2
section
variable{X:Cx}{e:Expr}{es:List Expr}{te:TE}{t:TA}{pos:Pos}
theorem d_:PA X [] NZ:=fun _ _ _ _ H Q I h=>abw ⟨[],H,I,.nil,h⟩
theorem a_(ha:PE X e te)(hr:PA X es t)(hs:starEach (e::es) X.env=(false,eval e X.env)::starEach es X.env:=by rfl):PA X (e::es) (QZ te t):=by
 intro pos c_ s σ H Q I h
 rw[hs]
 show wpAny _ _ (spliced ((false,eval e X.env)::backTo pos (starEach es X.env))) _ _ s
 refine abb (iS (ha c_ s σ H _ I h) fun u s1 ⟨x,H1,I1,r1,q1⟩=>?_)
 exact iS (hr pos c_ s1 σ H1 _ I1 q1) fun us s2 ⟨xs,H2,I2,r2,q2⟩=>⟨x::xs,H2,I2,.cons r1 r2,q2⟩
def Va(t:TA):TE:=fun σ H Q=>t σ H fun xs H1=>xs.length≤sizeLine∧∀p,H1 p=none→Q (.ref p) (upd H1 p (.tup xs))
def Vb(t:TA):TE:=fun σ H Q=>t σ H fun xs H1=>xs.length≤sizeLine∧∀p,H1 p=none→Q (.ref p) (upd H1 p (.lst xs))
theorem BX{x1}(h:PA X es t):PE X (.Tuple es x1 pos) (Va t):=by
 intro c_ s σ H Q I hq
 refine wpAny_Tuple_spliced (iS (h pos c_ s σ H _ I hq) fun us s1 ⟨xs,H1,I1,r,z,q⟩=>⟨by rw[←r.length];exact z,?_⟩)
 have hf:H1 s1.heap.objs.size=none:=I1.iG.fresh (Vx _)
 refine⟨.ref s1.heap.objs.size,upd H1 s1.heap.objs.size (.tup xs),I1.laid (t':=s1.toks) (fun b u e=>YH _ e) (Vx _) ?_,rfl,q _ hf⟩
 exact⟨z,us,r,⟨_,aax _ rfl,rfl,_,rfl⟩⟩
theorem iU(h:PA X es t):PE X (.List es pos) (Vb t):=by
 intro c_ s σ H Q I hq
 refine wpAny_List_spliced (iS (h pos c_ s σ H _ I hq) fun us s1 ⟨xs,H1,I1,r,z,q⟩=>⟨by rw[←r.length];exact z,?_⟩)
 have hf:H1 s1.heap.objs.size=none:=I1.iG.fresh (Vx _)
 refine⟨.ref s1.heap.objs.size,upd H1 s1.heap.objs.size (.lst xs),I1.laid (t':=s1.toks) (fun b u e=>YH _ e) (Vx _) ?_,rfl,q _ hf⟩
 exact⟨z,us,0,r,aax _ rfl⟩
end
abbrev Sp:=List V→Hp→VK→XK→Prop
abbrev Gr:=List Env→Hp→Shared→XK→Qqq
structure Fc(P:Program)(w:World)(K:Qqy)(mg:Qqx)(base:Heap)(A:Around)(outer:List Env)(s:Shared)(H:Hp):Prop where
 frames:A.frames=some outer
 mod:Mod K mg base
 bs:∀b o,base.get? b=some o→s.heap.get? b=some o∧H b=none
 IB:base.objs.size≤s.heap.objs.size
 tZ:s.heap.FunFrames base outer
 Li:∀b∈tH outer,H b=none
 iG:qO P w H s.heap
 bare:AllBare s.gens
def CE(outer:List Env)(P:Program)(w:World)(H:Hp)(s:Shared)(Q:VK)(u:Value)(s':Shared):Prop:=
 ∃v H',s'.os=s.os∧AllBare s'.gens∧Un (tH outer) [] H H' s.heap s'.heap∧qO P w H' s'.heap∧RelV v u∧Q v H'
def CR(CX:Gr)(outer:List Env)(P:Program)(w:World)(H:Hp)(s:Shared)(Q:VK)(E:XK)(r:Result)(s':Shared):Prop:=
 match r with
 | .ok (.ret u)=>CE outer P w H s Q u s'
 | .ok _=>False
 | .error e=>CX outer H s E e s'
structure ij(P:Program)(w:World)(K:Qqy)(mg:Qqx)(base:Heap)(CX:Gr)(k:Nat)(f:Addr)(fd:FuncData)(ps:List Str)(sp:Sp):Prop where
 len:∀vs H Q E,sp vs H Q E→vs.length=ps.length
 run:∀(A:Around)(outer:List Env)(s:Shared)(H:Hp)(args:Args)(us:List Value)(vs:List V)(Q:VK)(E:XK),ko k A→Fc P w K mg base A outer s H→BindsTo s fd args (ps.zip us)→Vals vs us→sp vs H Q E→
  codeAny (model P w) A (.call (.ref f) args) (CR CX outer P w H s Q E) s
theorem ij.mono{P:Program}{w:World}{K:Qqy}{mg:Qqx}{base:Heap}{CX:Gr}{j k:Nat}{f:Addr}{fd:FuncData}{ps:List Str}{sp:Sp}(F:ij P w K mg base CX j f fd ps sp)(h:j≤k) :
 ij P w K mg base CX k f fd ps sp:=⟨F.len,fun A outer s H args us vs Q E hr=>F.run A outer s H args us vs Q E (hr.mono h)⟩
theorem Fc.make{P:Program}{w:World}{K:Qqy}{mg:Qqx}{base:Heap}{A:Around}{outer:List Env}{s:Shared}{H:Hp}(e:Fc P w K mg base A outer s H)(C:Addr)(us:List Value)(kw:List (Str×Value)) :
 Fc P w K mg base (A.under (.builtin "type.__call__" ⟨.ref C::us,kw⟩)) outer s H:=⟨by first|exact e.frames|(simpa[Around.under,Code.envs,Code.isFrame,pushEnvs] using e.frames),e.mod,e.bs,e.IB,e.tZ,e.Li,e.iG,e.bare⟩
section
variable{X:Cx}{c_:Qqz}{σ:St}{H:Hp}{s s':Shared}
theorem Inv.Q0(I:Inv X c_ σ H s):Fc X.prog X.w X.K X.mg X.base X.A X.stack s H:=
 ⟨I.ok.frames,I.ok.mod,I.bs,aac I.ok.IB I.sz,I.stack,I.yO,I.iG,I.bare⟩
theorem Inv.after{Q:VK}{u:Value}(I:Inv X c_ σ H s)(h:CE X.stack X.prog X.w H s Q u s'):EP X c_ σ Q u s':=by
 obtain⟨v,H',os,bare,un,iG,r,q⟩:=h
 obtain⟨hh,g,d,t,os'⟩:=s'
 obtain rfl:os'=s.os:=os
 exact⟨v,H',I.call (h':=hh) (g':=g) (d':=d) (t':=t) (ch:=[]) un iG bare (fun b z=>absurd z (by simp)),r,q⟩
end
def IJ(sp:Sp)(yZ:List V)(E:XK)(t:TA):TE:=fun σ H Q=>t σ H fun vs H1=>sp (vs++yZ) H1 Q E
def Gs(C:Addr)(m:Str)(sp:Sp)(yZ:List V)(E:XK)(ta:TE)(t:TA):TE:=fun σ H Q=>ta σ H fun x H1=>∃a dx fs,x=.ref a∧H1 a=some (.ins C dx fs)∧fs.lookup m=none∧
 t σ H1 fun vs H2=>sp (x::(vs++yZ)) H2 Q E
def MU(C:Addr)(sp:Sp)(yZ:List V)(E:XK)(t:TA):TE:=fun σ H Q=>t σ H fun vs H1=>∀x dx,H1 x=none→H1 dx=none→dx≠x→
 sp (.ref x::(vs++yZ)) (upd (upd H1 dx (.own x)) x (.ins C dx [])) (fun v H2=>v=.jl∧Q (.ref x) H2) E
def Binds(K:Qqy)(fd:FuncData)(ps:List Str)(ds:List Value):Prop:=
 ∀(s:Shared)(us:List Value),K.In s.heap→(us++ds).length=ps.length→BindsTo s fd ⟨us,[]⟩ (ps.zip (us++ds))
theorem Binds.all{K:Qqy}{fd:FuncData}{ps:List Str}(h:∀us:List Value,us.length=ps.length→bindArgs fd ⟨us,[]⟩=pure (ps.zip us)):Binds K fd ps []:=fun s us _ hl=>by
 rw[aaJ] at hl ⊢
 exact .of_eq (h us hl)
def Passes(CX:Gr)(X:Cx)(E:XK):Prop:=∀(c_:Qqz)(σ:St)(H:Hp)(s:Shared)(e:Value)(s':Shared),Inv X c_ σ H s→CX X.stack H s E e s'→X.xe e s'
section
variable{X:Cx}{CX:Gr}{k:Nat}{f C:Addr}{fd:FuncData}{ps:List Str}{sp:Sp}{yZ:List V}{ds:List Value}{E:XK}{x m:Str}{p pos apos:Pos}{e o:Expr}{es:List Expr}{ta:TE}{t:TA}
theorem Fe{c_:Qqz}{σ:St}{H:Hp}{s:Shared}{Q:VK}{us:List Value}{vs:List V}(F:ij X.prog X.w X.K X.mg X.base CX k f fd ps sp)(hr:ko k X.A)(hb:Binds X.K fd ps ds)(hd:Vals yZ ds)(hx:Passes CX X E)
  (I:Inv X c_ σ H s) (r:Vals vs us) (h:sp (vs++yZ) H Q E):wpAny (model X.prog X.w) X.A (call (.ref f) us) (EP X c_ σ Q) X.xe s:=by
 have r2:Vals (vs++yZ) (us++ds):=r.append hd
 have hl:(us++ds).length=ps.length:=by rw[←r2.length];exact F.len _ _ _ _ h
 refine wpAny_call (codeAny_mono (F.run X.A X.stack s H ⟨us,[]⟩ (us++ds) (vs++yZ) Q E hr I.Q0 (hb s us I.xo hl) r2 h) fun r s' hq=>?_)
 cases r with
 | error e=>exact hx c_ σ H s e s' I hq
 | ok fl=>
  cases fl with
  | ret u=>exact I.after hq
  | next=>exact False.elim hq
  | brk=>exact False.elim hq
  | cont=>exact False.elim hq
theorem uN(F:ij X.prog X.w X.K X.mg X.base CX k f fd ps sp)(hr:ko k X.A)(hg:Gl X x)(hm:X.mg x=some (.ref f))(hk:W.keepIn X.K (.ref f)=true)(hb:Binds X.K fd ps ds)(hd:Vals yZ ds)(hx:Passes CX X E)
  (ha:PA X (e::es) t) (FZ:(x ==("__debug__":Str))=false:=by decide) (he:starEach (e::es) X.env=(false,eval e X.env)::starEach es X.env:=by rfl) (oh:(backTo pos (starEach es X.env)).any (·.1)=false:=by rfl) :
  PE X (.Call (.Name x p) (e::es) [] pos) (IJ sp yZ E t):=by
 intro c_ s σ H Q I h
 refine wpAny_Call_Name_kw (uJ I hg hm ?_ FZ)
 refine W.callWith_K (h₀:=X.base) I.ok.mod.P8 hk (iS (ha pos c_ s σ H _ I h) fun us s1 ⟨vs,H1,I1,r,q⟩=>⟨I1.xo,?_⟩) he oh
 exact Fe F hr hb hd hx I1 r q
theorem Gu{pl:Sem Bool}(he:PE X o ta)(c:EY X.K C)(hm:Meth X.K C m f)(F:ij X.prog X.w X.K X.mg X.base CX k f fd ps sp)(hr:ko k X.A)(hb:Binds X.K fd ps ds)(hd:Vals yZ ds)(hx:Passes CX X E)(ha:PA X (e::es) t)
  (xc:starEach (e::es) X.env=(false,eval e X.env)::starEach es X.env:=by rfl) (oh:(backTo pos (starEach es X.env)).any (·.1)=false:=by rfl)
  (ht:eval (.Call (.Attribute o m apos) (e::es) [] pos) X.env=(do
   let ov ←eval o X.env
   standAt apos.atName
   let (f,first) ←holding [ov] (getMethod ov m pl)
   callWith pos f first (backTo pos (starEach (e::es) X.env)) (backToKw pos (keywordEach [] X.env))):=by rfl) :
  PE X (.Call (.Attribute o m apos) (e::es) [] pos) (Gs C m sp yZ E ta t):=by
 intro c_ s σ H Q I h
 refine W.methodCall_KW (pl:=pl) (iS (he c_ s σ H _ I h) fun u s1 ⟨x,H1,I1,rx,a,dx,fs,ex,ea,l,q⟩=>?_) ht
 subst ex
 obtain rfl:u=Value.ref a:=rx
 refine za I1 ea c hm l ?_
 refine W.callWith_K (first:=[.ref a]) (h₀:=X.base) I.ok.mod.P8 hm.kp (iS (ha pos c_ s1 σ H1 _ I1 q) fun us s2 ⟨vs,H2,I2,r,q2⟩=>⟨I2.xo,?_⟩) xc oh
 exact Fe (us:=.ref a::us) (vs:=.ref a::vs) F hr hb hd hx I2 (.cons rfl r) q2
theorem zb{pl:Sem Bool}(he:PE X o ta)(c:EY X.K C)(hm:Meth X.K C m f)(F:ij X.prog X.w X.K X.mg X.base CX k f fd ps sp)(hr:ko k X.A)(hb:Binds X.K fd ps ds)(hd:Vals yZ ds)(hx:Passes CX X E)
  (ht:eval (.Call (.Attribute o m apos) [] [] pos) X.env=(do
   let ov ←eval o X.env
   standAt apos.atName
   let (f,first) ←holding [ov] (getMethod ov m pl)
   callWith pos f first (backTo pos (starEach [] X.env)) (backToKw pos (keywordEach [] X.env))):=by rfl) :
  PE X (.Call (.Attribute o m apos) [] [] pos) (Gs C m sp yZ E ta NZ):=by
 intro c_ s σ H Q I h
 refine W.methodCall_KW (pl:=pl) (iS (he c_ s σ H _ I h) fun u s1 ⟨x,H1,I1,rx,a,dx,fs,ex,ea,l,q⟩=>?_) ht
 subst ex
 obtain rfl:u=Value.ref a:=rx
 refine za I1 ea c hm l ?_
 exact W.callWith_K0 (first:=[.ref a]) I1.xo hm.kp (Fe (us:=[.ref a]) (vs:=[.ref a]) F hr hb hd hx I1 (.cons rfl .nil) q)
structure Mk(K:Qqy)(C f:Addr):Prop where
 makes:W.makesIn K C=true
 init:W.findIn K (.ref C) "__init__"=some (some (.ref f))
 fn:W.isFn K (.ref f)=true
 kp:W.keepIn K (.ref C)=true
theorem Dx{c_:Qqz}{σ:St}{H:Hp}{s:Shared}{Q:VK}{us:List Value}{vs:List V}(M:Mk X.K C f)(F:ij X.prog X.w X.K X.mg X.base CX k f fd ps sp)(hr:ko (k+1) X.A)(hb:Binds X.K fd ps ds)(hd:Vals yZ ds)
  (hx:Passes CX X E) (I:Inv X c_ σ H s) (r:Vals vs us)
  (h:∀x dx,H x=none→H dx=none→dx≠x→sp (.ref x::(vs++yZ)) (upd (upd H dx (.own x)) x (.ins C dx [])) (fun v H2=>v=.jl∧Q (.ref x) H2) E) :
  wpAny (model X.prog X.w) X.A (call (.ref C) us) (EP X c_ σ Q) X.xe s:=by
 have hq:=h (s.heap.objs.size+1) s.heap.objs.size (I.iG.fresh (Nat.le_succ _)) (I.iG.fresh (Vx _)) (aaN (abZ _))
 have I2:=Inv.made (C:=C) I
 have r2:Vals (V.ref (s.heap.objs.size+1)::(vs++yZ)) (Value.ref (s.heap.objs.size+1)::(us++ds)):=.cons rfl (r.append hd)
 have hl:(Value.ref (s.heap.objs.size+1)::us++ds).length=ps.length:=by
  have e:=r2.length
  rw[F.len _ _ _ _ hq] at e
  exact e.symm
 refine wpAny_call (II (f:=f) I.xo M.makes M.init (abK.mp M.fn) (codeAny_mono (F.run _ X.stack _ _ ⟨Value.ref (s.heap.objs.size+1)::us,[]⟩ (Value.ref (s.heap.objs.size+1)::(us++ds)) _ _ E (hr.make C us [])
  (I2.Q0.make C us []) (hb _ (Value.ref (s.heap.objs.size+1)::us) I2.xo hl) r2 hq) fun r s' RZ=>?_))
 cases r with
 | error e=>exact hx c_ σ _ _ e s' I2 RZ
 | ok fl=>
  cases fl with
  | ret u=>
   obtain⟨v,H',I3,rv,ev,q3⟩:=I2.after RZ
   subst ev
   exact⟨rv,⟨V.ref (s.heap.objs.size+1),H',I3,rfl,q3⟩⟩
  | next=>exact False.elim RZ
  | brk=>exact False.elim RZ
  | cont=>exact False.elim RZ
theorem uO(M:Mk X.K C f)(F:ij X.prog X.w X.K X.mg X.base CX k f fd ps sp)(hr:ko (k+1) X.A)(hg:Gl X x)(hm:X.mg x=some (.ref C))(hb:Binds X.K fd ps ds)(hd:Vals yZ ds)(hx:Passes CX X E)
  (ha:PA X (e::es) t) (FZ:(x ==("__debug__":Str))=false:=by decide) (he:starEach (e::es) X.env=(false,eval e X.env)::starEach es X.env:=by rfl) (oh:(backTo pos (starEach es X.env)).any (·.1)=false:=by rfl) :
  PE X (.Call (.Name x p) (e::es) [] pos) (MU C sp yZ E t):=by
 intro c_ s σ H Q I h
 refine wpAny_Call_Name_kw (uJ I hg hm ?_ FZ)
 refine W.callWith_K (h₀:=X.base) I.ok.mod.P8 M.kp (iS (ha pos c_ s σ H _ I h) fun us s1 ⟨vs,H1,I1,r,q⟩=>⟨I1.xo,?_⟩) he oh
 exact Dx M F hr hb hd hx I1 r q
theorem IK(M:Mk X.K C f)(F:ij X.prog X.w X.K X.mg X.base CX k f fd ps sp)(hr:ko (k+1) X.A)(hg:Gl X x)(hm:X.mg x=some (.ref C))(hb:Binds X.K fd ps ds)(hd:Vals yZ ds)(hx:Passes CX X E)
  (FZ:(x ==("__debug__":Str))=false:=by decide):PE X (.Call (.Name x p) [] [] pos) (MU C sp yZ E NZ):=by
 intro c_ s σ H Q I h
 refine wpAny_Call_Name_kw (uJ I hg hm ?_ FZ)
 exact W.callWith_K0 I.xo M.kp (Dx (us:=[]) M F hr hb hd hx I .nil h)
end
def PK(X:Cx)(YV:List Keyword)(t:TA):Prop:=
 ∀(pos:Pos)(c_:Qqz)(s:Shared)(σ:St)(H:Hp)(Q:List V→Hp→Prop),Inv X c_ σ H s→t σ H Q→wpAny (model X.prog X.w) X.A (evalAll ((backToKw pos (keywordEach YV X.env)).map (·.2))) (AP X c_ σ Q) X.xe s
section
variable{X:Cx}{CX:Gr}{k:Nat}{f C:Addr}{fd:FuncData}{ps ks:List Str}{sp:Sp}{E:XK}{x m:Str}{p pos apos kpos:Pos}{e o:Expr}{es:List Expr}{YV:List Keyword}{te ta:TE}{t tk:TA}{nm:Option Str}
variable{g:List Value→List Value→List Value}{gV:List V→List V→List V}
end
structure gw(N P:List Str)(sc:Scope):Prop where
 kind:sc.kind=.function
 co:sc.isCoroutine=false
 gen:sc.isGenerator=false
 nd:N.Nodup
 pre:N.take P.length=P
 par:∀x∈P,sc.names.lookup x=some .local∨sc.names.lookup x=some .cell
 N0:∀y∈sc.names,y.2≠.free
theorem Bb{kindOf:Str→Option NameKind}{x:Str}:∀{binds:List (Str×Value)} {m:Qqx},(∀v,(x,v)∉binds)→bindL kindOf binds m x=m x
 | [],_,_=>rfl
 | (n,v)::r,m,h=>by
  unfold bindL
  rw[Bb fun w hw=>h w (aaj _ hw)]
  split
  ·have:x≠n:=by rintro rfl;exact h v aav
   simp[this]
  ·rfl
theorem Bc{kindOf:Str→Option NameKind}{x:Str}:∀{binds:List (Str×Value)} {m:Qqx},(∀v,(x,v)∉binds)→bindC kindOf binds m x=m x
 | [],_,_=>rfl
 | (n,v)::r,m,h=>by
  unfold bindC
  rw[Bc fun w hw=>h w (aaj _ hw)]
  split
  ·rfl
  ·have:x≠n:=by rintro rfl;exact h v aav
   simp[this]
theorem Be{kindOf:Str→Option NameKind}{x:Str}{v:Value}:∀{P:List Str} {vs:List Value} {i:Nat} {m:Qqx},P.Nodup→P[i]?=some x→vs[i]?=some v→kindOf x=some .local→
  bindL kindOf (P.zip vs) m x=some v
 | [],_,_,_,_,h,_,_=>by simp at h
 | _::_,[],_,_,_,_,h,_=>by simp at h
 | p::P,w::vs,0,m,nd,h1,h2,hk=>by
  simp at h1 h2;subst h1;subst h2
  show bindL kindOf ((p,w)::P.zip vs) m p=_
  unfold bindL
  rw[Bb fun v hv=>(aaX.mp nd).1 (List.of_mem_zip hv).1,aaq hk]
  simp
 | p::P,w::vs,i+1,m,nd,h1,h2,hk=>by
  show bindL kindOf ((p,w)::P.zip vs) m x=_
  unfold bindL
  exact Be (i:=i) (aaX.mp nd).2 (by simpa using h1) (by simpa using h2) hk
theorem Bf{kindOf:Str→Option NameKind}{x:Str}{v:Value}:∀{P:List Str} {vs:List Value} {i:Nat} {m:Qqx},P.Nodup→P[i]?=some x→vs[i]?=some v→kindOf x≠some .local→
  bindC kindOf (P.zip vs) m x=some v
 | [],_,_,_,_,h,_,_=>by simp at h
 | _::_,[],_,_,_,_,h,_=>by simp at h
 | p::P,w::vs,0,m,nd,h1,h2,hk=>by
  simp at h1 h2;subst h1;subst h2
  show bindC kindOf ((p,w)::P.zip vs) m p=_
  unfold bindC
  rw[Bc fun v hv=>(aaX.mp nd).1 (List.of_mem_zip hv).1,aal hk]
  simp
 | p::P,w::vs,i+1,m,nd,h1,h2,hk=>by
  show bindC kindOf ((p,w)::P.zip vs) m x=_
  unfold bindC
  exact Bf (i:=i) (aaX.mp nd).2 (by simpa using h1) (by simpa using h2) hk
noncomputable def start(N:List Str)(vs:List V):St:=vs.map some++List.replicate (N.length-vs.length) none
noncomputable def wa(CX:Gr)(P:Program)(w:World)(K:Qqy)(mg:Qqx)(base:Heap)(N:List Str)(qual:Str)(scope:Scope)(f:Addr)(cd:Value)(A:Around)(outer:List Env)(s:Shared)(H:Hp)(E:XK):Cx where
 prog:=P
 w:=w
 K:=K
 mg:=mg
 base:=base
 A:=A.deeper (envOfC qual scope s.heap.objs.size f cd)
 N:=N
 s₀:=s
 H₀:=H
 env:=envOfC qual scope s.heap.objs.size f cd
 outer:=outer
 stack:=envOfC qual scope s.heap.objs.size f cd::outer
 ex:=[]
 calm:=true
 fn:=fun _=>true
 pn:=[]
 xe:=fun e s'=>wpAny (model P w) (A.deeper (envOfC qual scope s.heap.objs.size f cd)) (leaving (envOfC qual scope s.heap.objs.size f cd) e) (fun _ Ih=>CX outer H s E e Ih) (fun e' Ih=>CX outer H s E e' Ih) s'
theorem Dy{sc:Scope}{n:Nat}{x:Str}(h:sc.names.lookup x=some .cell):∃c,(cellsFrom n sc.names []).lookup x=some c:=by
 have q:=W.cellsFrom_some sc.names n [] (.inl h)
 exact Option.isSome_iff_exists.mp q
theorem Hi{CX:Gr}{P:Program}{w:World}{K:Qqy}{mg:Qqx}{base:Heap}{N ps:List Str}{qual:Str}{scope:Scope}{f:Addr}{cd:Value}{A:Around}{outer:List Env}{s s1:Shared}{H:Hp}{E:XK}{us:List Value}{vs:List V}
  (S:gw N ps scope) (hd:A.handled=none) (e0:Fc P w K mg base A outer s H) (hl:vs.length=ps.length) (r:Vals vs us)
  (x:InCallC s s.heap.objs.size (bindL (envOfC qual scope s.heap.objs.size f cd).kindOf (ps.zip us) fun _=>none) (cellsFrom (s.heap.objs.size+1) scope.names []) (bindC (envOfC qual scope s.heap.objs.size f cd).kindOf (ps.zip us) fun _=>none) s1) :
  Inv (wa CX P w K mg base N qual scope f cd A outer s H E) [] (start N vs) H s1:=by
 have oh:ps.length≤N.length:=by have:=aa2 List.length S.pre;rw[aaB] at this;omega
 obtain⟨h1,tk,rfl,hk⟩:=x.done
 have R0:∀b:Addr,b∉(wa CX P w K mg base N qual scope f cd A outer s H E).ex:=fun b z=>absurd (show b∈([]:List Addr) from z) (by simp)
 refine⟨⟨e0.mod,S.kind,rfl,rfl,Vx _,fun y z c h1 h2=>?_,fun y hy=>?_,fun y c _ h=>?_,fun _=>hd,Around.frames_deeper e0.frames,.inr ⟨rfl,rfl⟩,fun b z=>absurd z (R0 b),e0.bs,e0.IB,fun b _ _=>R0 b,fun b z=>absurd z (R0 b),e0.tZ,e0.Li⟩,
  rfl,e0.bare,Un.kept hk,⟨_,x.toInCall.ns,fun i y v h1 h2 h3=>?_⟩,fun y c h=>⟨_,x.cell y c h⟩,e0.iG.fresh (Vx _),fun y c h=>?_,fun p hp=>absurd (show p∈([]:Qqz) from hp) (by simp),e0.iG.kept hk,?_⟩
 ·exact name_of_addr x.apart (aa6 h1) (aa6 h2)
 ·have hy:scope.names.lookup y=some .cell∨scope.names.lookup y=some .free:=hy
  rcases hy with hy|hy
  ·exact Dy hy
  ·exact absurd rfl (S.N0 _ (aa6 hy))
 ·exact Nat.le_of_lt (x.above y c (aa6 h))
 ·have hi:i<vs.length:=by
   unfold start at h2
   by_cases hi:i<vs.length
   ·exact hi
   ·rw[aba (by simpa using hi)] at h2
    rw[List.getElem?_replicate] at h2
    split at h2<;>cases h2
  have ha:vs[i]?=some v:=by
   unfold start at h2
   rw[abP (by simpa using hi),aae] at h2
   cases e:vs[i]? with
   | none=>rw[e] at h2;cases h2
   | some a=>rw[e] at h2;cases h2;rfl
  obtain⟨u,hu,rv⟩:=r.get ha
  have hp:ps[i]?=some y:=by
   rw[←S.pre,List.getElem?_take_of_lt (by omega)];exact h1
  have YW:ps.Nodup:=by rw[←S.pre];exact S.nd.sublist (acd _ _)
  refine⟨u,rv,?_⟩
  rcases S.par y (Vs hp) with k|k
  ·exact .inl ⟨k,Be YW hp hu k⟩
  ·obtain⟨c,e⟩:=Dy (n:=s.heap.objs.size+1) k
   refine .inr ⟨.inl k,c,e,?_⟩
   have q:=x.cell y c e
   rw[Bf YW hp hu (by show scope.names.lookup y≠_;rw[k];decide)] at q
   exact q
 ·exact e0.iG.fresh (Nat.le_of_lt (x.above y c (aa6 h)))
 ·unfold start
  show _=N.length
  rw[Vq,So,List.length_replicate]
  omega
theorem MV{CX:Gr}{P:Program}{w:World}{K:Qqy}{mg:Qqx}{base:Heap}{k:Nat}{f:Addr}{name qual:Str}{params:Arguments}{body:List Stmt}{scope:Scope}{dV kV doc pm jm ct oc:Value}{an od:Option Addr}
  {Iq:Array (Option Value)} {N ps:List Str} {sp:Sp} (lk:K.lookup f=some ⟨oc,od,.func (W.fnOf name qual params body scope dV kV doc pm an jm ct),Iq⟩) (BM:W.codeIn K jm qual=true) (S:gw N ps scope)
  (len:∀vs H Q E,sp vs H Q E→vs.length=ps.length)
  (vP:∀(A:Around)(outer:List Env)(s:Shared)(H:Hp)(vs:List V)(Q:VK)(E:XK),ko k (A.deeper (envOfC qual scope s.heap.objs.size f jm))→sp vs H Q E→
   ∃t,EW (wa CX P w K mg base N qual scope f jm A outer s H E) body t∧t {nx:=fun _ H'=>Q .jl H',rt:=Q} (start N vs) H) :
  ij P w K mg base CX (k+1) f (W.fnOf name qual params body scope dV kV doc pm an jm ct) ps sp:=by
 refine⟨len,fun A outer s H args us vs Q E hr e0 hb r K7=>?_⟩
 have hl:=len _ _ _ _ K7
 have KX:K.In s.heap:=e0.mod.P8.keeps fun b o e=>(e0.bs b o e).1
 have lim:s.heap.NoLimit:=e0.mod.nolimit.keeps fun b o e=>(e0.bs b o e).1
 have R1:∀y∈ps.zip us,scope.names.lookup y.1=some .local∨(scope.names.lookup y.1=some .cell∧((cellsFrom (s.heap.objs.size+1) scope.names []).lookup y.1).isSome=true):=fun⟨n,v⟩ hy=>by
  rcases S.par n (List.of_mem_zip hy).1 with q|q
  ·exact .inl q
  ·exact .inr ⟨q,W.cellsFrom_some _ _ _ (.inl q)⟩
 refine codeAny_call_function hr.depth (KX _ _ lk) rfl S.co S.gen rfl (W.codeRec_of KX BM) (hb _ _ _ _ ?_)
 refine wpAny_newFunctionEnv_cells S.kind R1 fun env he s1 x=>?_
 subst he
 refine⟨lim.keeps x.toInCall.keep,codeAny_func ?_⟩
 obtain⟨t,ht,hq⟩:=vP A outer s H vs Q E (hr.deeper _) K7
 have I:Inv (wa CX P w K mg base N qual scope f jm A outer s H E) [] (start N vs) H s1:=Hi S hr.hd e0 hl r x
 refine abo (ht [] s1 (start N vs) H _ I hq) (fun fl s' hs=>?_) fun e s' hs=>hs
 have fin:∀{σ':St} {H':Hp} {v:V} {u:Value},Inv (wa CX P w K mg base N qual scope f jm A outer s H E) [] σ' H' s'→RelV v u→Q v H'→CE outer P w H s Q u s':=
  fun{σ' H' v u} J rv q=>⟨v,H',J.os,J.bare,J.base,J.iG,rv,q⟩
 cases fl with
 | ret u=>
  obtain⟨v,σ',H',J,rv,q⟩:=hs
  exact fin J rv q
 | next=>
  obtain⟨σ',H',J,q⟩:=hs
  exact fin (v:=V.jl) (u:=Value.none) J rfl q
 | brk=>
  obtain⟨_,_,_,q⟩:=hs
  exact False.elim q
 | cont=>
  obtain⟨_,_,_,q⟩:=hs
  exact False.elim q
section
variable{X:Cx}{x:Str}{p pos:Pos}{e:Expr}{es:List Expr}{t:TA}{id T:String}{r:List V→Hp→VK→Prop}
def YE(r:List V→Hp→VK→Prop)(t:TA):TE:=fun σ H Q=>t σ H fun vs H1=>r vs H1 Q
theorem gA(hc:uL X (.builtin id) r)(hg:Gl X x)(hm:X.mg x=none)(hv:bootBuiltins x=some (.builtin id))(ha:PA X (e::es) t)(hn:x≠"__name__":=by decide)(FZ:(x ==("__debug__":Str))=false:=by decide)
  (he:starEach (e::es) X.env=(false,eval e X.env)::starEach es X.env:=by rfl) (oh:(backTo pos (starEach es X.env)).any (·.1)=false:=by rfl):PE X (.Call (.Name x p) (e::es) [] pos) (YE r t):=by
 intro c_ s σ H Q I h
 refine wpAny_Call_Name_kw (oX I hg hm hv ?_ hn FZ)
 exact PyProof.Rows.callWith_builtin1 (iS (ha pos c_ s σ H _ I h) fun us s1 ⟨vs,H1,I1,r1,q1⟩=>hc c_ s1 σ H1 vs us Q I1 r1 q1) he oh
theorem sS(hc:uL X (.type T) r)(hg:Gl X x)(hm:X.mg x=none)(hv:bootBuiltins x=some (.type T))(ha:PA X (e::es) t)(hn:x≠"__name__":=by decide)(FZ:(x ==("__debug__":Str))=false:=by decide)
  (he:starEach (e::es) X.env=(false,eval e X.env)::starEach es X.env:=by rfl) (oh:(backTo pos (starEach es X.env)).any (·.1)=false:=by rfl):PE X (.Call (.Name x p) (e::es) [] pos) (YE r t):=by
 intro c_ s σ H Q I h
 refine wpAny_Call_Name_kw (oX I hg hm hv ?_ hn FZ)
 exact aaW (iS (ha pos c_ s σ H _ I h) fun us s1 ⟨vs,H1,I1,r1,q1⟩=>hc c_ s1 σ H1 vs us Q I1 r1 q1) he oh
end
end L2
namespace HT
open PySem PyProof.Rows
section
open PySem.SeqAt
open PySem.AutoSeq1 (wpAny_loadPart')
open PySem.MeetsSeq PySem.MeetsSeq2 PySem.MeetsSeq3
end
section
variable{prog:Program}{w:World}{A:Around}{E:Qqq}{s:Shared}
noncomputable def Dz(n d:Nat):Option Int→Nat
 | none=>d
 | some v=>if v<0 then(v+(n:Int)).toNat else min v.toNat n
theorem DA(n d:Nat):Dz n d none=d:=rfl
theorem Gv(n d k:Nat):Dz n d (some (k:Int))=min k n:=by
 show(if(k:Int)<0 then((k:Int)+(n:Int)).toNat else min (k:Int).toNat n)=min k n
 rw[aal (by omega),abS]
end
end HT
namespace L2
open PySem PySem.Spec PyProof.Rows
abbrev TO:=St→Hp→(Option Int→Hp→Prop)→Prop
def PO(X:Cx)(e:Option Expr)(t:TO):Prop:=
 ∀(c_:Qqz)(s:Shared)(σ:St)(H:Hp)(Q:Option Int→Hp→Prop),Inv X c_ σ H s→t σ H Q→
  wpAny (model X.prog X.w) X.A (evalPart e X.env) (fun u s'=>∃o H',Inv X c_ σ H' s'∧IsPart u o∧Q o H') X.xe s
def Lp:TO:=fun _ H Q=>Q none H
def Q1(t:TE):TO:=fun σ H Q=>t σ H fun x H1=>∃i,x=.int i∧Q (some i) H1
section
variable{X:Cx}{e:Expr}{te:TE}{lo hi:Option Expr}{tl th:TO}{pos p2:Pos}
theorem oj:PO X none Lp:=by
 intro c_ s σ H Q I h
 rw[evalPart_none]
 exact aai ⟨none,H,I,.none,h⟩
theorem oq(h:PE X e te):PO X (some e) (Q1 te):=by
 intro c_ s σ H Q I hw
 rw[evalPart_some]
 refine iS (h c_ s σ H _ I hw) fun u s1 ⟨x,H1,I1,r1,q1⟩=>?_
 obtain⟨i,rfl,q⟩:=q1
 obtain⟨t,rfl⟩:=r1
 exact⟨some i,H1,I1,.int i t,q⟩
def YF(X:Cx)(r:V→Option Int→Option Int→Hp→VK→Prop):Prop:=
 ∀(c_:Qqz)(s:Shared)(σ:St)(H:Hp)(x:V)(v vl vu:Value)(lo hi:Option Int)(sl:Addr)(Q:VK),Inv X c_ σ H s→RelV x v→s.heap.IsSliceOf sl vl vu .none→IsPart vl lo→IsPart vu hi→r x lo hi H Q→
  ∃T id,typeLookup (.type T) "__getitem__"=pure (some (.builtin id))∧s.TypeIs v T∧wpAny (model X.prog X.w) X.A (getItem v (.ref sl)) (EP X c_ σ Q) X.xe s
def tSl(r:V→Option Int→Option Int→Hp→VK→Prop)(te:TE)(tl th:TO):TE:=fun σ H Q=>te σ H fun x H1=>tl σ H1 fun l H2=>th σ H2 fun u H3=>r x l u H3 Q
theorem mB{r:V→Option Int→Option Int→Hp→VK→Prop}(hr:YF X r)(he:PE X e te)(hl:PO X lo tl)(hu:PO X hi th):PE X (.Subscript e (.Slice lo hi none p2) pos) (tSl r te tl th):=by
 intro c_ s σ H Q I h
 refine Subscript_ (iS (he c_ s σ H _ I h) fun v s1 ⟨x,H1,I1,r1,q1⟩=>?_)
 refine wpAny_Slice (iS (hl c_ s1 σ H1 _ I1 q1) fun vl s2 ⟨l,H2,I2,pl,q2⟩=>iS (hu c_ s2 σ H2 _ I2 q2) fun vu s3 ⟨u,H3,I3,pu,q3⟩=>?_)
 rw[evalPart_none]
 refine aai ?_
 have I4:Inv X c_ σ H3 {s3 with heap:=s3.heap.push {cls:=.type "slice",data:=.fields #[vl,vu,.none]}}:=I3.kept (t':=s3.toks) fun b ob q=>YH _ q
 obtain⟨T,id,hT,ht,hg⟩:=hr c_ {s3 with heap:=s3.heap.push {cls:=.type "slice",data:=.fields #[vl,vu,.none]}} σ H3 x v vl vu l u s3.heap.objs.size Q I4 r1 (Heap.IsSliceOf.new ..) pl pu q3
 show wpAny (model X.prog X.w) X.A (subscriptTail e (.Slice lo hi none p2) v (.ref s3.heap.objs.size)) (EP X c_ σ Q) X.xe {s3 with heap:=s3.heap.push {cls:=.type "slice",data:=.fields #[vl,vu,.none]}}
 exact tail_any (ops:=[.ref s3.heap.objs.size,v]) ht hT hg (by with_unfolding_all rfl)
noncomputable def uP(xs:List V)(lo hi:Option Int):List V:=(xs.drop (HT.Dz xs.length 0 lo)).take (HT.Dz xs.length xs.length hi-HT.Dz xs.length 0 lo)
theorem DB(xs:List V)(lo hi:Option Int):(uP xs lo hi).length≤xs.length:=by
 unfold uP
 rw[aaB,List.length_drop]
 omega
end
noncomputable def IL(n:Nat)(i:Int):Option Nat:=if 0≤i then(if i<n then some i.toNat else none) else if -(n:Int)≤i then some (i+n).toNat else none
noncomputable def DC{α:Type}(xs:List α)(i:Int):Option α:=(IL xs.length i).bind fun j=>xs[j]?
theorem Gw{n:Nat}{i:Int}{j:Nat}(h:IL n i=some j):seqIndex? i n=some j∧j<n∧-(n:Int)≤i∧i<n:=by
 unfold IL at h
 by_cases h0:0≤i
 ·rw[aaq h0] at h
  by_cases h1:i<n
  ·rw[aaq h1] at h
   have e:i.toNat=j:=aaz h
   exact⟨by rw[seqIndex_of h0 h1,e],by omega,by omega,h1⟩
  ·rw[aal h1] at h;cases h
 ·rw[aal h0] at h
  by_cases h1:-(n:Int)≤i
  ·rw[aaq h1] at h
   have e:(i+n).toNat=j:=aaz h
   exact⟨by rw[seqIndex_neg (by omega) h1,e],by omega,h1,by omega⟩
  ·rw[aal h1] at h;cases h
theorem yQ{α:Type}{xs:List α}{i:Int}{v:α}(h:DC xs i=some v):∃j,seqIndex? i xs.length=some j∧xs[j]?=some v∧j<xs.length∧-(xs.length:Int)≤i∧i<xs.length:=by
 unfold DC at h
 cases e:IL xs.length i with
 | none=>rw[e] at h;cases h
 | some j=>
  rw[e] at h
  obtain⟨h1,h2,h3,h4⟩:=Gw e
  exact⟨j,h1,h,h2,h3,h4⟩
theorem Lq{α:Type}{xs:List α}{j:Nat}{v:α}(h:xs[j]?=some v):DC xs (j:Int)=some v:=by
 have hj:j<xs.length:=(List.getElem?_eq_some_iff.mp h).1
 have e:IL xs.length (j:Int)=some j:=by
  unfold IL
  rw[aaq (by omega),aaq (by omega)];simp
 unfold DC;rw[e];exact h
theorem DD{α:Type}(xs:List α)(v:α):DC (xs++[v]) (-1)=some v:=by
 have hl:(xs++[v]).length=xs.length+1:=by simp
 have e:IL (xs++[v]).length (-1)=some xs.length:=by
  unfold IL
  rw[hl,aal (by decide),aaq (by omega)]
  congr 1
  omega
 unfold DC
 rw[e]
 show(xs++[v])[xs.length]?=some v
 simp
def Gx(b:Expr):Prop:=∀o i,subscripted b false o i=operate [o,i] (getItem o i)
def TY(X:Cx)(r:R2):Prop:=
 ∀(value slice:Expr)(c_:Qqz)(s:Shared)(σ:St)(H:Hp)(x y:V)(v u:Value)(Q:VK),Inv X c_ σ H s→RelV x v→RelV y u→r x y H Q→
  subscripted slice false v u=operate [v,u] (getItem v u)→wpAny (model X.prog X.w) X.A (subscriptTail value slice v u) (EP X c_ σ Q) X.xe s
def Vc(X:Cx)(id:String)(r:V→List V→Hp→VK→Prop):Prop:=
 ∀(c_:Qqz)(s:Shared)(σ:St)(H:Hp)(x:V)(xs:List V)(v:Value)(us:List Value)(Q:VK),Inv X c_ σ H s→RelV x v→Vals xs us→r x xs H Q→
  wpAny (model X.prog X.w) X.A (call (.builtin id) (v::us)) (EP X c_ σ Q) X.xe s
section
variable{X:Cx}{a b:Expr}{ta tb:TE}{pos:Pos}
theorem jW{r:R2}(hr:TY X r)(ha:PE X a ta)(hb:PE X b tb)(hs:Gx b):PE X (.Subscript a b pos) (QU r ta tb):=by
 intro c_ s σ H Q I h
 exact Subscript_ (NU ha hb I h fun v u s2 x y H2 I2 rx ry q=>hr a b c_ s2 σ H2 x y v u Q I2 rx ry q (hs _ _))
noncomputable def Q2(K:Qqy):R2:=fun x y H Q=>∃p xs i v,x=.ref p∧y=.int i∧gF K H p xs∧DC xs i=some v∧Q v H
noncomputable def Vd(K:Qqy):R2:=fun x y H Q=>∃p xs i v,x=.ref p∧y=.int i∧rg K H p xs∧DC xs i=some v∧Q v H
noncomputable def Ve:R2:=fun x y H Q=>∃z i c,x=.str z∧y=.int i∧z.length≤sizeLine∧DC z.cps.toList i=some c∧Q (.str ⟨#[c]⟩) H
theorem kC:TY X (Q2 X.K):=by
 intro value slice c_ s σ H x y v u Q I rx ry h hs
 obtain⟨p,xs,i,z,rfl,rfl,hq,he,q⟩:=h
 cases rx
 obtain⟨t,rfl⟩:=ry
 obtain⟨gK,r,pl,hz⟩:=I.list hq
 obtain⟨j,h1,h2,h3,h4,h5⟩:=yQ he
 obtain⟨w,ew,Ag⟩:=r.get h2
 have hl:=r.length
 have hn:=ua
 have fin:EP X c_ σ Q w s:=⟨z,H,I,Ag,q⟩
 by_cases h0:0≤i
 ·have hj:i.toNat=j:=by
   rw[seqIndex_of h0 h5] at h1
   exact aaz h1
  exact item_listR pl.isList h0 (by omega) (by rw[hj];simpa using ew) fin hs
 ·have hj:(i+(gK.toArray.size:Int)).toNat=j:=by
   rw[seqIndex_neg (by omega) h4] at h1
   rw[YM,←hl]
   exact aaz h1
  exact subscriptTail_builtinR (x:=w) pl.isList.typeIs slot_list_getitem.lookup
   (wpAny_getItem_list_neg (Q:=fun r s'=>r=w∧EP X c_ σ Q r s') pl.isList (by omega) (by rw[YM]<;>omega) (by omega) (by rw[hj];simpa using ew) ⟨rfl,fin⟩) hs
theorem oY:TY X (Vd X.K):=by
 intro value slice c_ s σ H x y v u Q I rx ry h hs
 obtain⟨p,xs,i,z,rfl,rfl,hq,he,q⟩:=h
 cases rx
 obtain⟨t,rfl⟩:=ry
 obtain⟨gK,r,pl,hz⟩:=I.tuple hq
 obtain⟨j,h1,h2,h3,h4,h5⟩:=yQ he
 obtain⟨w,ew,Ag⟩:=r.get h2
 have hl:=r.length
 have hn:=ua
 have fin:EP X c_ σ Q w s:=⟨z,H,I,Ag,q⟩
 exact subscriptTail_builtinR (x:=w) pl.typeIs slot_tuple_getitem.lookup
  (getItem_tuple (j:=j) (Q:=fun r s'=>r=w∧EP X c_ σ Q r s') pl (by omega) (by omega) (by rw[YM,←hl];exact h1) (by simpa using ew) ⟨rfl,fin⟩) hs
theorem Ff:TY X Ve:=by
 intro value slice c_ s σ H x y v u Q I rx ry h hs
 obtain⟨z,i,c,rfl,rfl,hz,he,q⟩:=h
 obtain⟨t,rfl⟩:=rx
 obtain⟨t',rfl⟩:=ry
 obtain⟨j,h1,h2,h3,h4,h5⟩:=yQ he
 have hl:z.cps.toList.length=z.length:=by simp[Str.length]
 rw[hl] at h1 h4 h5
 have hn:=ua
 exact tail_any (typeIs_str s z t) slot_str_getitem.lookup (getItem_str (c:=c) (by
  have e1:decide (i < -(2 ^ 63:Int))=false:=aab (by omega)
  have e2:decide (i≥2 ^ 63)=false:=aab (by omega)
  rw[e1,e2,Bool.or_false]) (by rw[h1];simpa using h2) ⟨.str ⟨#[c]⟩,H,I.tok _,⟨_,rfl⟩,q⟩) hs
theorem Fg(gK:List Value)(n j:Nat)(u:Value):Obj.mapSeq (·.setIfInBounds j u) {cls:=.type "list",data:=.seq gK.toArray n}={cls:=.type "list",data:=.seq (gK.set j u).toArray n}:=by
 simp[Obj.mapSeq]
theorem Inv.lst{c_:Qqz}{σ:St}{H:Hp}{s:Shared}{p:Addr}{xs:List V}(I:Inv X c_ σ H s)(h:H p=some (.lst xs)) :
  ∃(gK:List Value)(n:Nat),Vals xs gK∧s.heap.get? p=some {cls:=.type "list",data:=.seq gK.toArray n}∧xs.length≤sizeLine:=by
 obtain⟨z,gK,n,r,e⟩:=I.iG p _ h
 exact⟨gK,n,r,e,z⟩
theorem Inv.N1{c_:Qqz}{σ:St}{H:Hp}{s:Shared}{p:Addr}{xs ys:List V}{gK its':List Value}{n n':Nat}{f:Obj→Obj}(I:Inv X c_ σ H s)(h:H p=some (.lst xs))
  (ho:s.heap.get? p=some {cls:=.type "list",data:=.seq gK.toArray n}) (hf:f {cls:=.type "list",data:=.seq gK.toArray n}={cls:=.type "list",data:=.seq its'.toArray n'}) (r:Vals ys its') (hz:ys.length≤sizeLine) (t:Nat) :
  Inv X c_ σ (upd H p (.lst ys)) {s with heap:=s.heap.update p f,toks:=t}:=by
 have e:(s.heap.update p f).get? p=some {cls:=.type "list",data:=.seq its'.toArray n'}:=by
  rw[aa7 f ho (by rw[hf]<;>rfl),hf]
 refine I.write (x:=p) (e:=p) (by rw[h];trivial) (.inl rfl) (fun b u hb q=>(abJ _ _ (abF hb)).trans q) ⟨_,e⟩ ?_
 exact⟨hz,its',n',r,e⟩
noncomputable def Q3:V→V→V→Hp→(Hp→Prop)→Prop:=fun o i v H Q=>∃p xs k j,o=.ref p∧i=.int k∧H p=some (.lst xs)∧IL xs.length k=some j∧Q (upd H p (.lst (xs.set j v)))
theorem set_list:QP X Q3:=by
 intro c_ s σ H o i v ov iv u Q I ro ri rv h
 obtain⟨p,xs,k,j,rfl,rfl,hp,hj,q⟩:=h
 cases ro
 obtain⟨t,rfl⟩:=ri
 obtain⟨gK,n,r,ho,hz⟩:=I.lst hp
 obtain⟨h1,h2,h3,h4⟩:=Gw hj
 have hl:=r.length
 have hn:=ua
 have I':Inv X c_ σ (upd H p (.lst (xs.set j v))) {s with heap:=s.heap.update p (Obj.mapSeq (·.setIfInBounds j u))}:=
  I.N1 hp ho (Fg gK n j u) (r.set rv j) (by rw[ack];exact hz) s.toks
 by_cases h0:0≤k
 ·have hk:k.toNat=j:=by
   rw[seqIndex_of h0 h4] at h1
   exact aaz h1
  exact W.ki_setAt ho h0 (by omega) (by rw[YM,←hl];exact h4) (by rw[hk];exact⟨_,I',q⟩)
 ·have hk:(k+(gK.toArray.size:Int)).toNat=j:=by
   rw[seqIndex_neg (by omega) h3] at h1
   rw[YM,←hl]
   exact aaz h1
  exact W.ki_setBack ho (by omega) (by rw[YM,←hl];exact h3) (by omega) (by rw[hk];exact⟨_,I',q⟩)
theorem BY(lo hi:Option Int)(n:Nat):(sliceBounds lo hi none n).1=((HT.Dz n 0 lo:Nat):Int)∧(sliceBounds lo hi none n).2.1=((HT.Dz n n hi:Nat):Int)∧(sliceBounds lo hi none n).2.2=1:=by
 refine⟨?_,?_,rfl⟩
 ·cases lo with
  | none=>simp[sliceBounds,HT.Dz]
  | some i=>
   simp only [sliceBounds,HT.Dz,Option.getD_none,show(1:Int)>0 by decide,if_true]
   by_cases h:i<0
   ·simp only [h,if_true]<;>omega
   ·simp only [h,ab2]<;>omega
 ·cases hi with
  | none=>simp[sliceBounds,HT.Dz]
  | some i=>
   simp only [sliceBounds,HT.Dz,Option.getD_none,show(1:Int)>0 by decide,if_true]
   by_cases h:i<0
   ·simp only [h,if_true]<;>omega
   ·simp only [h,ab2]<;>omega
theorem AI(gK:List Value)(lo hi:Option Int):slicePick gK.toArray lo hi none=((gK.drop (HT.Dz gK.length 0 lo)).take (HT.Dz gK.length gK.length hi-HT.Dz gK.length 0 lo)).toArray:=by
 obtain⟨h1,h2,h3⟩:=BY lo hi gK.toArray.size
 unfold slicePick
 rw[h1,h2,h3]
 simp only [sliceRange_one,pick_run,YM]<;>rfl
noncomputable def Vf(K:Qqy):V→Option Int→Option Int→Hp→VK→Prop:=fun x lo hi H Q=>∃a xs,x=.ref a∧gF K H a xs∧∀p,H p=none→Q (.ref p) (upd H p (.lst (uP xs lo hi)))
theorem ou:YF X (Vf X.K):=by
 intro c_ s σ H x v vl vu lo hi sl Q I rx hs pl pu h
 obtain⟨a,xs,rfl,hx,q⟩:=h
 cases rx
 obtain⟨gK,r,ht,hz⟩:=I.list hx
 have hlen:=r.length
 refine⟨"list",_,slot_list_getitem.lookup,ht.isList.typeIs,?_⟩
 refine wpAny_getItem_list_slice ht.isList hs pl pu .none (by simp) ?_ (by rw[YM]<;>omega)
 rw[AI,←hlen]
 refine⟨.ref s.heap.objs.size,_,I.laid (t':=s.toks) (o:=.lst (uP xs lo hi)) (fun b ob q=>YH _ q) (Vx _) ?_,rfl,q _ (I.iG.fresh (Vx _))⟩
 exact⟨aac (DB xs lo hi) hz,_,0,(r.drop (HT.Dz xs.length 0 lo)).take (HT.Dz xs.length xs.length hi-HT.Dz xs.length 0 lo),aax _ rfl⟩
noncomputable def lB:V→Bool
 | .jl=>true
 | .bl _=>true
 | .int _=>true
 | .str _=>true
 | _=>false
noncomputable def Hj:V→V→Bool
 | .jl,.jl=>true
 | .bl a,.bl b=>a ==b
 | .bl a,.int b=>(if a then 1 else 0) ==b
 | .int a,.bl b=>a ==(if b then 1 else 0)
 | .int a,.int b=>a ==b
 | .str a,.str b=>a ==b
 | _,_=>false
theorem IM{A:Around}{s:Shared}{y x:V}{u v:Value}(ry:RelV y u)(rx:RelV x v)(fy:lB y=true)(fx:lB x=true):SeqAt.EqAt A s u v (Hj y x):=by
 cases y with
 | jl=>
  cases ry
  cases x with
  | jl=>cases rx;exact SeqAt.EqAt.same _
  | bl b=>cases rx;exact SeqAt.EqAt.none_bool b
  | int b=>obtain⟨t,rfl⟩:=rx;exact SeqAt.EqAt.none_int b t
  | str b=>obtain⟨t,rfl⟩:=rx;exact SeqAt.EqAt.none_str b t
  | _=>exact absurd (show false=true from fx) aad
 | bl a=>
  cases ry
  cases x with
  | jl=>cases rx;exact SeqAt.EqAt.bool_none a
  | bl b=>cases rx;exact SeqAt.EqAt.bool_bool a b
  | int b=>obtain⟨t,rfl⟩:=rx;exact SeqAt.EqAt.bool_int a b t
  | str b=>obtain⟨t,rfl⟩:=rx;exact SeqAt.EqAt.bool_str a b t
  | _=>exact absurd (show false=true from fx) aad
 | int a=>
  obtain⟨t',rfl⟩:=ry
  cases x with
  | jl=>cases rx;exact SeqAt.EqAt.int_none a t'
  | bl b=>cases rx;exact SeqAt.EqAt.int_bool a t' b
  | int b=>obtain⟨t,rfl⟩:=rx;exact SeqAt.EqAt.int_int a t' b t
  | str b=>obtain⟨t,rfl⟩:=rx;exact SeqAt.EqAt.int_str a t' b t
  | _=>exact absurd (show false=true from fx) aad
 | str a=>
  obtain⟨t',rfl⟩:=ry
  cases x with
  | jl=>cases rx;exact SeqAt.EqAt.str_none a t'
  | bl b=>cases rx;exact SeqAt.EqAt.str_bool a t' b
  | int b=>obtain⟨t,rfl⟩:=rx;exact SeqAt.EqAt.str_int a t' b t
  | str b=>obtain⟨t,rfl⟩:=rx;exact SeqAt.EqAt.str_str a t' b t
  | _=>exact absurd (show false=true from fx) aad
 | _=>exact absurd (show false=true from fy) aad
noncomputable def Lr(x:V)(u:Value):Bool:=match u with
 | .none=>Hj .jl x
 | .bool b=>Hj (.bl b) x
 | .int i _=>Hj (.int i) x
 | .str z _=>Hj (.str z) x
 | _=>false
theorem IP{x y:V}{u:Value}(r:RelV y u)(f:lB y=true):Lr x u=Hj y x:=by
 cases y with
 | jl=>cases r;rfl
 | bl b=>cases r;rfl
 | int i=>obtain⟨t,rfl⟩:=r;rfl
 | str z=>obtain⟨t,rfl⟩:=r;rfl
 | _=>exact absurd (show false=true from f) aad
theorem BZ{x:V}:∀{xs:List V} {us:List Value},Vals xs us→xs.all lB=true→us.any (Lr x)=xs.any fun y=>Hj y x
 | _,_,.nil,_=>rfl
 | y::xs,u::us,.cons r t,f=>by
  rw[List.all_cons,aaT] at f
  rw[List.any_cons,List.any_cons,IP r f.1,BZ t f.2]
theorem zc{A:Around}{s:Shared}{x:V}{v:Value}(rx:RelV x v)(fx:lB x=true):∀{xs:List V} {us:List Value},Vals xs us→xs.all lB=true→∀u∈us,SeqAt.EqAt A s u v (Lr x u)
 | _,_,.nil,_=>fun u hu=>by cases hu
 | y::xs,u::us,.cons r t,f=>fun u' hu=>by
  rw[List.all_cons,aaT] at f
  rcases Wg.mp hu with rfl|hu
  ·rw[IP r f.1];exact IM r rx f.1 fx
  ·exact zc rx fx t f.2 u' hu
noncomputable def Ls(x:V)(xs:List V):Bool:=xs.any fun y=>Hj y x
noncomputable def rIn(K:Qqy)(neg:Bool):R2:=fun x y H Q=>∃p xs,y=.ref p∧(gF K H p xs∨rg K H p xs)∧lB x=true∧xs.all lB=true∧Q (.bl (if neg then !Ls x xs else Ls x xs)) H
theorem Bg:xp X (compareOp .In) (rIn X.K false):=by
 intro c_ s σ H x y v u Q I rx ry h
 obtain⟨p,xs,rfl,hq,fx,fs,q⟩:=h
 cases ry
 rcases hq with hq|hq
 ·obtain⟨gK,r,pl,hz⟩:=I.list hq
  refine SeqAt.in_listAt (Lr x) pl.isList (fun w hw=>zc rx fx r fs w (by simpa using hw)) ⟨.bl _,H,I,rfl,?_⟩
  rw[show gK.toArray.any (Lr x)=gK.any (Lr x) by simp,BZ r fs]
  exact q
 ·obtain⟨gK,r,pl,hz⟩:=I.tuple hq
  refine SeqAt.in_tupleAt (Lr x) pl (fun w hw=>zc rx fx r fs w (by simpa using hw)) ⟨.bl _,H,I,rfl,?_⟩
  rw[show gK.toArray.any (Lr x)=gK.any (Lr x) by simp,BZ r fs]
  exact q
theorem gp:uL X (.builtin "len") (fun xs H Q=>∃p ys,xs=[.ref p]∧(gF X.K H p ys∨rg X.K H p ys)∧Q (.int ys.length) H):=by
 intro c_ s σ H xs us Q I r h
 obtain⟨p,ys,rfl,hq,q⟩:=h
 obtain⟨u,rfl,rx⟩:=vals1 r
 cases rx
 have hn:=ua
 rcases hq with hq|hq
 ·obtain⟨gK,r',pl,hz⟩:=I.list hq
  have hlen:=r'.length
  exact Calls.call_len_list pl.isList (by simp only [YM]<;>omega) ⟨.int ys.length,H,I.tok _,⟨s.toks+1,by rw[YM,hlen]⟩,q⟩
 ·obtain⟨gK,r',pl,hz⟩:=I.tuple hq
  have hlen:=r'.length
  exact len_tuple pl (by simp only [YM]<;>omega) ⟨.int ys.length,H,I.tok _,⟨s.toks+1,by rw[YM,hlen]⟩,q⟩
theorem uQ:uL X (.builtin "len") (fun xs H Q=>∃z,xs=[.str z]∧z.length≤sizeLine∧Q (.int z.length) H):=by
 intro c_ s σ H xs us Q I r h
 obtain⟨z,rfl,hz,q⟩:=h
 obtain⟨u,rfl,t,rfl⟩:=vals1 r
 have hn:=ua
 exact len_str (by omega) ⟨.int z.length,H,I.tok _,⟨_,rfl⟩,q⟩
theorem uR:uL X (.type "list") (fun xs H Q=>∃p ys,xs=[.ref p]∧(gF X.K H p ys∨rg X.K H p ys)∧∀l,H l=none→Q (.ref l) (upd H l (.lst ys))):=by
 intro c_ s σ H xs us Q I r h
 obtain⟨p,ys,rfl,hq,q⟩:=h
 obtain⟨u,rfl,rx⟩:=vals1 r
 cases rx
 have fin:∀(gK:List Value),Vals ys gK→ys.length≤sizeLine→∀(h':Heap)(c':Nat),(∀b o',s.heap.get? b=some o'→h'.get? b=some o')→
   h'.get? s.heap.objs.size=some {cls:=.type "list",dict:=none,data:=.seq gK.toArray c',slots:=#[]}→EP X c_ σ Q (.ref s.heap.objs.size) {s with heap:=h'}:=fun gK r' hz h' c' kp e=>
  ⟨.ref s.heap.objs.size,_,I.laid (t':=s.toks) kp (Vx _) (show i3 X.prog X.w _ h' _ (.lst ys) from ⟨hz,gK,c',r',e⟩),rfl,q _ (I.iG.fresh (Vx _))⟩
 rcases hq with hq|hq
 ·obtain⟨gK,r',pl,hz⟩:=I.list hq
  have hlen:=r'.length
  obtain⟨o,ho,hc,n,hd⟩:=pl.isList
  exact call_list_seq p (.inl rfl) ho hc hd (fun h' c' kp e=>fin gK r' hz h' c' kp e) (by simp only [YM]<;>omega)
 ·obtain⟨gK,r',pl,hz⟩:=I.tuple hq
  have hlen:=r'.length
  obtain⟨o,ho,hc,n,hd⟩:=pl
  exact call_list_seq p (.inr rfl) ho hc hd (fun h' c' kp e=>fin gK r' hz h' c' kp e) (by simp only [YM]<;>omega)
def Vg(K:Qqy)(T:String)(x:V)(H:Hp):Prop:=match x with
 | .str _=>T="str"
 | .int _=>T="int"
 | .ref p=>(T="list"∧∃xs,gF K H p xs)∨(T="tuple"∧∃o,K.lookup p=some o∧o.cls=.type "tuple"∧o.dict=none)∨
  (T="dict"∧((∃kvs,H p=some (.dK kvs))∨∃kvs,H p=some (.dT kvs)))∨(T="set"∧∃S n,H p=some (.set S n))
 | _=>False
theorem IQ{c_:Qqz}{σ:St}{H:Hp}{s:Shared}{T:String}{x:V}{v:Value}(I:Inv X c_ σ H s)(r:RelV x v)(ty:Vg X.K T x H) :
  s.TypeIs v T∧∀a,v=.ref a→∃ob,s.heap.get? a=some ob∧ob.dict=none:=by
 cases x with
 | str z=>
  obtain⟨t,rfl⟩:=r
  cases (show T="str" from ty)
  exact⟨typeIs_str s z t,fun _ e=>nomatch e⟩
 | int i=>
  obtain⟨t,rfl⟩:=r
  cases (show T="int" from ty)
  exact⟨typeIs_int s i t,fun _ e=>nomatch e⟩
 | ref p=>
  cases r
  rcases ty with⟨rfl,xs,hq⟩|⟨rfl,o,hk,hc,hd⟩|⟨rfl,hk⟩|⟨rfl,S,n,hk⟩
  ·obtain⟨gK,_,pl,_⟩:=I.list hq
   refine⟨pl.isList.typeIs,fun a e=>?_⟩
   cases e
   obtain⟨o,n,e,c,hd,_⟩:=pl
   exact⟨o,e,hd⟩
  ·refine⟨⟨o,I.xo p o hk,hc⟩,fun a e=>?_⟩
   cases e
   exact⟨o,I.xo _ o hk,hd⟩
  ·have z:∃o,s.heap.get? p=some o∧o.ExactDict:=by
    rcases hk with⟨kvs,hk⟩|⟨kvs,hk⟩
    ·obtain⟨_,_,_,_,o,_,_,e,ex,_⟩:=I.iG p _ hk
     exact⟨o,e,ex⟩
    ·obtain⟨_,_,_,_,o,_,_,e,ex,_⟩:=I.iG p _ hk
     exact⟨o,e,ex⟩
   obtain⟨o,e,ex⟩:=z
   refine⟨⟨o,e,ex.1⟩,fun a e2=>?_⟩
   cases e2
   exact⟨o,e,ex.2.1⟩
  ·obtain⟨o,_,_,_,e,ex,_⟩:=I.iG p _ hk
   refine⟨⟨o,e,ex.1⟩,fun a e2=>?_⟩
   cases e2
   exact⟨o,e,ex.2.1⟩
 | _=>exact False.elim ty
def Vh(K:Qqy)(T:String)(r:V→List V→Hp→VK→Prop)(to:TE):TE:=fun σ H Q=>to σ H fun x H1=>Vg K T x H1∧r x [] H1 Q
def tBM(K:Qqy)(T:String)(r:V→List V→Hp→VK→Prop)(to:TE)(t:TA):TE:=fun σ H Q=>to σ H fun x H1=>Vg K T x H1∧t σ H1 fun xs H2=>r x xs H2 Q
variable{o e:Expr}{es:List Expr}{to:TE}{t:TA}{name:Str}{apos kO:Pos}{T id:String}{r:V→List V→Hp→VK→Prop}
theorem N2(pa:PlainAttrs T)(slot:Slot T name id)(R3:typeOf (.builtin id)=pure (.type "method_descriptor"))(hm:Vc X id r)(ho:PE X o to)
  (Ky:attributeBase o name X.env (eval o X.env)=eval o X.env:=by rfl) (Kz:(apos.endLine ==kO.line)=true:=by rfl):PE X (.Call (.Attribute o name apos) [] [] kO) (Vh X.K T r to):=by
 intro c_ s σ H Q I h
 refine wpAny_Call_method0_late Ky Kz (iS (ho c_ s σ H _ I h) fun v s1 ⟨x,H1,I1,r1,ty,q1⟩=>?_)
 obtain⟨h1,h2⟩:=IQ I1 r1 ty
 exact⟨T,id,pa,slot,R3,h1,h2,abd rfl (PySem.evalArgs_none (hm c_ s1 σ H1 x [] v [] Q I1 r1 .nil q1))⟩
theorem ow(pa:PlainAttrs T)(slot:Slot T name id)(R3:typeOf (.builtin id)=pure (.type "method_descriptor"))(hm:Vc X id r)(ho:PE X o to)(ha:PA X (e::es) t)
  (Ky:attributeBase o name X.env (eval o X.env)=eval o X.env:=by rfl)
  (VQ:((backTo kO (starEach (e::es) X.env)).all (fun x=>!x.1)&&(backToKw kO (keywordEach [] X.env)).all (fun x=>x.1.isSome)
   &&decide ((e::es).length+([]:List Keyword).length+(if([]:List Keyword).isEmpty then 0 else 1)<30))=true:=by rfl)
  (Kz:(apos.endLine ==kO.line)=true:=by rfl) (hs:starEach (e::es) X.env=(false,eval e X.env)::starEach es X.env:=by rfl) (Ph:(backTo kO (starEach es X.env)).any (·.1)=false:=by rfl) :
  PE X (.Call (.Attribute o name apos) (e::es) [] kO) (tBM X.K T r to t):=by
 intro c_ s σ H Q I h
 refine wpAny_Call_method_late Ky VQ Kz rfl (iS (ho c_ s σ H _ I h) fun v s1 ⟨x,H1,I1,r1,ty,q1⟩=>?_)
 obtain⟨h1,h2⟩:=IQ I1 r1 ty
 refine⟨T,id,pa,slot,R3,h1,h2,?_⟩
 have hA:=ha kO c_ s1 σ H1 _ I1 q1
 rw[hs] at hA ⊢
 refine abd (by show(false||(backTo kO (starEach es X.env)).any (·.1))=false;rw[Ph]<;>rfl) (abp ?_)
 exact iS hA fun us s2 ⟨vs,H2,I2,r2,q2⟩=>hm c_ s2 σ H2 x vs v us Q I2 r1 r2 q2
end
def TZ(X:Cx)(id:String)(r:V→List V→Hp→VK→Prop):Prop:=
 ∀(c_:Qqz)(s:Shared)(σ:St)(H:Hp)(x:V)(xs:List V)(v:Value)(us:List Value)(Q:VK),Inv X c_ σ H s→RelV x v→Vals xs us→r x xs H Q→
  wpAny (model X.prog X.w) X.A (call (.builtin id) (v::us)) (EP X c_ σ Q) X.xe s
theorem Vals.one:∀{x:V} {us:List Value},Vals [x] us→∃u,us=[u]∧RelV x u
 | _,_,.cons r .nil=>⟨_,rfl,r⟩
theorem Vals.zero:∀{us:List Value},Vals [] us→us=[]
 | _,.nil=>rfl
theorem Vals.dropLast{xs:List V}{us:List Value}(h:Vals xs us):Vals xs.dropLast us.dropLast:=by
 induction h with
 | nil=>exact .nil
 | cons r t ih=>
  cases t with
  | nil=>exact .nil
  | cons q t'=>exact .cons r ih
theorem Vals.eraseIdx:∀{xs:List V} {us:List Value} (i:Nat),Vals xs us→Vals (xs.eraseIdx i) (us.eraseIdx i)
 | _,_,_,.nil=>.nil
 | _,_,0,.cons _ t=>t
 | _,_,i+1,.cons r t=>.cons r (Vals.eraseIdx i t)
theorem Vals.rep{xs:List V}{us:List Value}(h:Vals xs us):∀k:Nat,Vals (List.replicate k xs).flatten (List.replicate k us).flatten
 | 0=>.nil
 | k+1=>by
  rw[aa8,aa8,abT,abT]
  exact Vals.append h (Vals.rep h k)
theorem Fh{α:Type}(l:List α):l.eraseIdx (l.length-1)=l.dropLast:=by
 induction l with
 | nil=>rfl
 | cons a r ih=>
  cases r with
  | nil=>rfl
  | cons b r=>
   have e:(a::b::r).length-1=((b::r).length-1)+1:=by
    have h1:(a::b::r).length=r.length+2:=rfl
    have h2:(b::r).length=r.length+1:=rfl
    omega
   rw[e,List.eraseIdx_cons_succ,ih]
   all_goals rfl
theorem Bh{α:Type}:∀(l:List α)(i:Nat),(l.eraseIdx i).length≤l.length
 | [],_=>Vx _
 | _::_,0=>Nat.le_succ _
 | _::r,i+1=>Nat.succ_le_succ (Bh r i)
theorem foldl_rep(gK:List Value):∀(k:Nat)(acc:List Value),
  List.foldl (fun x1 x2=>x1++x2) acc.toArray (List.replicate k gK.toArray)=(acc++(List.replicate k gK).flatten).toArray
 | 0,acc=>by simp
 | k+1,acc=>by
  have e:acc.toArray++gK.toArray=(acc++gK).toArray:=by simp
  have e2:(acc++gK)++(List.replicate k gK).flatten=acc++(List.replicate (k+1) gK).flatten:=by
   rw[aa8,abT,aaK]
  rw[←e2,←foldl_rep gK k (acc++gK),←e,aa8,List.foldl_cons]
section
variable{X:Cx}{c_:Qqz}{σ:St}{H:Hp}{s:Shared}{l b:Addr}{xs ys zs:List V}
theorem Inv.Lu{gK its':List Value}{n:Nat}{f:Array Value→Array Value}{t':Nat}(I:Inv X c_ σ H s)(hH:H l=some (.lst xs))
  (e:s.heap.get? l=some {cls:=.type "list",data:=.seq gK.toArray n}) (hf:f gK.toArray=its'.toArray) (hv:Vals ys its') (hz:ys.length≤sizeLine) :
  Inv X c_ σ (upd H l (.lst ys)) {s with heap:=s.heap.update l (Obj.mapSeq f),toks:=t'}:=by
 have q:=PySem.IsL.update e f
 rw[hf] at q
 refine I.write (x:=l) (e:=l) (by rw[hH];exact trivial) (.inl rfl) (fun b' u hb hu=>(abJ s.heap (Obj.mapSeq f) (abF hb)).trans hu) ⟨_,q⟩ ?_
 exact⟨hz,its',_,hv,q⟩
theorem Inv.Lv{gK:List Value}{t':Nat}(I:Inv X c_ σ H s)(hv:Vals ys gK)(hz:ys.length≤sizeLine) :
  Inv X c_ σ (upd H s.heap.objs.size (.lst ys)) {s with heap:=s.heap.push {cls:=.type "list",data:=.seq gK.toArray},toks:=t'}:=
 I.laid (fun _ _ q=>YH _ q) (Vx _) ⟨hz,gK,0,hv,aax _ rfl⟩
theorem Inv.fresh(I:Inv X c_ σ H s):H s.heap.objs.size=none:=I.iG.fresh (Vx _)
theorem Inv.DE(I:Inv X c_ σ H s)(hH:H l=some (.lst xs)):xs.length≤sizeLine∧∃(gK:List Value)(n:Nat),Vals xs gK∧xs.length=gK.length∧s.heap.get? l=some {cls:=.type "list",data:=.seq gK.toArray n}:=by
 obtain⟨z,gK,n,r,e⟩:=I.iG l _ hH
 exact⟨z,gK,n,r,r.length,e⟩
theorem DG{n:Nat}(h:n≤sizeLine):Builtin.List.listTooLong n=false:=by
 unfold Builtin.List.listTooLong
 exact aab (by omega)
end
section
variable{X:Cx}
noncomputable def Lw:V→List V→Hp→VK→Prop:=fun x vs H Q=>∃l xs y,x=.ref l∧vs=[y]∧H l=some (.lst xs)∧xs.length<sizeLine∧Q .jl (upd H l (.lst (xs++[y])))
theorem j8:TZ X "list.append" Lw:=by
 intro c_ s σ H x vs v us Q I rx rv h
 obtain⟨l,xs,y,rfl,rfl,hH,hz,q⟩:=h
 cases rx
 obtain⟨u,rfl,ru⟩:=rv.one
 obtain⟨z,gK,n,r,hl,e⟩:=I.DE hH
 refine call_meets F.slot_list_append ⟨_,e,rfl⟩ F.entry_list_append (F.args_list_append_2 _ _) (PySem.list_append l gK.toArray n u (by rw[YM];omega)) ⟨e,?_⟩
 refine⟨.jl,_,I.Lu (its':=gK++[u]) hH e (by simp) (r.append (.cons ru .nil)) ?_,rfl,q⟩
 rw[Vq,List.length_singleton]
 omega
noncomputable def Lx:V→List V→Hp→VK→Prop:=fun x vs H Q=>∃l b xs zs,x=.ref l∧vs=[.ref b]∧H l=some (.lst xs)∧H b=some (.lst zs)∧xs.length+zs.length≤sizeLine∧Q .jl (upd H l (.lst (xs++zs)))
theorem Bi:TZ X "list.extend" Lx:=by
 intro c_ s σ H x vs v us Q I rx rv h
 obtain⟨l,b,xs,zs,rfl,rfl,hH,hB,hz,q⟩:=h
 cases rx
 obtain⟨u,rfl,ru⟩:=rv.one
 cases ru
 obtain⟨z,gK,n,r,hl,e⟩:=I.DE hH
 obtain⟨z2,lU,n2,r2,KA,e2⟩:=I.DE hB
 have hsz:gK.toArray.size+lU.toArray.size≤sizeLine:=by rw[YM,YM];omega
 have KC:¬(!gK.toArray.isEmpty&&Builtin.List.listTooLong (gK.toArray.size+lU.toArray.size))=true:=by
  rw[DG hsz,Bool.and_false]
  exact aad
 refine call_meets F.slot_list_extend ⟨_,e,rfl⟩ F.entry_list_extend (F.args_list_extend_2 _ _)
  (AutoSeq1.list_extend_list_list_0 l gK.toArray n b lU.toArray n2 KC (by rw[YM];omega) (by omega)) ⟨e,e2,?_⟩
 refine⟨.jl,_,I.Lu (its':=gK++lU) hH e (by simp) (r.append r2) ?_,rfl,q⟩
 rw[Vq]
 omega
noncomputable def Vi:V→List V→Hp→VK→Prop:=fun x vs H Q=>∃l xs y,x=.ref l∧vs=[]∧H l=some (.lst xs)∧xs[xs.length-1]?=some y∧Q y (upd H l (.lst xs.dropLast))
theorem N3:TZ X "list.pop" Vi:=by
 intro c_ s σ H x vs v us Q I rx rv h
 obtain⟨l,xs,y,rfl,rfl,hH,hy,q⟩:=h
 cases rx
 have hus:=rv.zero
 subst hus
 obtain⟨z,gK,n,r,hl,e⟩:=I.DE hH
 obtain⟨u,hu,ru⟩:=r.get hy
 have T9:gK.toArray[gK.toArray.size-1]?=some u:=by
  show gK.toArray[gK.length-1]?=some u
  rw[←aa0,←hl]
  exact hu
 refine call_meets F.slot_list_pop ⟨_,e,rfl⟩ F.entry_list_pop (F.args_list_pop_1 _) (MeetsSeq.list_pop_last l gK.toArray n u T9 (by rw[YM];omega)) ⟨e,?_⟩
 refine⟨y,_,I.Lu (its':=gK.dropLast) hH e ?_ r.dropLast ?_,ru,q⟩
 ·show gK.toArray.eraseIdxIfInBounds (gK.toArray.size-1)=gK.dropLast.toArray
  rw[YM,List.eraseIdxIfInBounds_toArray,Fh]
 ·rw[List.length_dropLast]
  omega
noncomputable def N4:V→List V→Hp→VK→Prop:=fun x vs H Q=>∃l xs i k y,x=.ref l∧vs=[.int i]∧H l=some (.lst xs)∧-(2 ^ 63)≤i∧i<2 ^ 63∧seqIndex? i xs.length=some k∧xs[k]?=some y∧Q y (upd H l (.lst (xs.eraseIdx k)))
theorem IS:TZ X "list.pop" N4:=by
 intro c_ s σ H x vs v us Q I rx rv h
 obtain⟨l,xs,i,k,y,rfl,rfl,hH,h1,h2,hk,hy,q⟩:=h
 cases rx
 obtain⟨u,rfl,ru⟩:=rv.one
 obtain⟨t,rfl⟩:=ru
 obtain⟨z,gK,n,r,hl,e⟩:=I.DE hH
 obtain⟨w,hw,Ag⟩:=r.get hy
 refine call_meets F.slot_list_pop ⟨_,e,rfl⟩ F.entry_list_pop (F.args_list_pop_2 _ _)
  (MeetsSeq.list_pop_at l gK.toArray n i t k w (fitsIndex_both h1 h2) (by rw[YM,←hl];exact hk) (by rw[←aa0];exact hw) (by rw[YM];omega)) ⟨e,?_⟩
 refine⟨y,_,I.Lu (its':=gK.eraseIdx k) hH e ?_ (r.eraseIdx k) ?_,Ag,q⟩
 ·show gK.toArray.eraseIdxIfInBounds k=(gK.eraseIdx k).toArray
  rw[List.eraseIdxIfInBounds_toArray]
 ·have:=Bh xs k
  omega
noncomputable def Vj:R2:=fun x y H Q=>∃l b xs zs,x=.ref l∧y=.ref b∧H l=some (.lst xs)∧H b=some (.lst zs)∧xs.length+zs.length≤sizeLine∧∀p,H p=none→Q (.ref p) (upd H p (.lst (xs++zs)))
theorem nG:xp X (binaryOp .Add) Vj:=by
 intro c_ s σ H x y v u Q I rx ry h
 obtain⟨l,b,xs,zs,rfl,rfl,hH,hB,hz,q⟩:=h
 cases rx
 cases ry
 obtain⟨z,gK,n,r,hl,e⟩:=I.DE hH
 obtain⟨z2,lU,n2,r2,KA,e2⟩:=I.DE hB
 refine PySem.P.add_list e e2 ?_ (by rw[YM,YM];omega)
 have ea:gK.toArray++lU.toArray=(gK++lU).toArray:=by simp
 rw[ea]
 exact⟨.ref _,_,I.Lv (t':=s.toks) (r.append r2) (by rw[Vq];omega),rfl,q _ I.fresh⟩
noncomputable def Vk:R2:=fun x y H Q=>∃l k xs,x=.ref l∧y=.int k∧H l=some (.lst xs)∧-(2 ^ 63)≤k∧k<2 ^ 63∧xs.length*k.toNat≤sizeLine∧
 ∀p,H p=none→Q (.ref p) (upd H p (.lst (List.replicate k.toNat xs).flatten))
theorem len_rep{α:Type}(xs:List α)(k:Nat):(List.replicate k xs).flatten.length=k*xs.length:=by
 induction k with
 | zero=>simp
 | succ k ih=>rw[aa8,abT,Vq,ih,Nat.succ_mul,Nat.add_comm]
theorem Fi:xp X (binaryOp .Mult) Vk:=by
 intro c_ s σ H x y v u Q I rx ry h
 obtain⟨l,k,xs,rfl,rfl,hH,h1,h2,hz,q⟩:=h
 cases rx
 obtain⟨t,rfl⟩:=ry
 obtain⟨z,gK,n,r,hl,e⟩:=I.DE hH
 have hlen:gK.toArray.size*k.toNat≤sizeLine:=by rw[YM,←hl];exact hz
 have VR:¬gK.toArray.size*k.toNat>(2 ^ 63-1)/8:=by
  have:(sizeLine:Nat)≤(2 ^ 63-1)/8:=by decide
  omega
 have VS:¬(!Builtin.List.listFitsIndex k)=true:=by
  rw[fitsIndex_both h1 h2]
  exact aad
 have KC:¬Builtin.List.listTooLong (gK.toArray.size*k.toNat)=true:=by
  rw[DG hlen]
  exact aad
 have VT:List.foldl (fun x1 x2=>x1++x2) #[] (List.replicate (if gK.toArray.isEmpty=true then 0 else k.toNat) gK.toArray)=(List.replicate k.toNat gK).flatten.toArray:=by
  have f0:∀m:Nat,List.foldl (fun x1 x2=>x1++x2) #[] (List.replicate m gK.toArray)=(List.replicate m gK).flatten.toArray:=fun m=>by
   have:=foldl_rep gK m []
   rw[List.nil_append] at this
   exact this
  rw[f0]
  cases gK with
  | nil=>simp
  | cons a r'=>rw[aal (by simp)]
 refine wpAny_binaryOp_repeat_ref (T:="list") (U:="int") (by decide) ⟨_,e,rfl⟩ (fun s'=>typeIs_int s' k t) noFill_list_mul F.fills_int_mul F.slot_int_rmul repeat_list F.slot_int_index.lookup
  (call_meets F.slot_int_rmul (typeIs_int s k t) F.entry_int_rmul (F.args_int_rmul_2 _ _) (int___rmul___int_list k t l gK.toArray n)
   ⟨e,rfl,⟨_,e,rfl⟩,call_meets F.slot_list_mul ⟨_,e,rfl⟩ F.entry_list_mul (F.args_list_mul_2 _ _) (AutoListH.list___mul___list_int_3 l gK.toArray n k t VS VR KC) ⟨e,?_⟩⟩)
 rw[VT]
 exact⟨.ref _,_,I.Lv (t':=s.toks) (r.rep k.toNat) (by rw[len_rep,Nat.mul_comm];exact hz),rfl,q _ I.fresh⟩
end
section
variable{prog:Program}{w:World}{A:Around}{E:Qqq}{s:Shared}
end
section
variable{X:Cx}
end
section
variable{κ:Type}[DecidableEq κ]
noncomputable def iN(kvs:List (κ×V))(k:κ):Option V:=(kvs.find? fun kv=>decide (kv.1=k)).map (·.2)
noncomputable def putK(kvs:List (κ×V))(k:κ)(v:V):List (κ×V):=
 if(kvs.any fun kv=>decide (kv.1=k))=true then kvs.map (fun kv=>if kv.1=k then(kv.1,v) else kv) else kvs++[(k,v)]
noncomputable def jP(kvs:List (κ×V))(k:κ):List (κ×V):=kvs.filter fun kv=>decide (kv.1≠k)
theorem jj{p:κ×V}{r:List (κ×V)}{k:κ}(e:p.1=k):iN (p::r) k=some p.2:=by simp[iN,ab6,e]
theorem je{p:κ×V}{r:List (κ×V)}{k:κ}(e:¬p.1=k):iN (p::r) k=iN r k:=by simp[iN,ab6,e]
theorem rn(k:κ):∀kvs:List (κ×V),(kvs.any fun kv=>decide (kv.1=k))=(iN kvs k).isSome
 | []=>rfl
 | p::r=>by
  rw[List.any_cons]
  by_cases e:p.1=k
  ·simp only [jj e,Vy e,Bool.true_or,Option.isSome_some]
  ·rw[je e,aab e,Bool.false_or];exact rn k r
theorem DH(k j:κ)(y:V):∀kvs:List (κ×V),iN (kvs.map fun kv=>if kv.1=k then(kv.1,y) else kv) j=(iN kvs j).map fun x=>if j=k then y else x
 | []=>rfl
 | p::r=>by
  have ih:=DH k j y r
  rw[aaw]
  by_cases h:p.1=k
  ·rw[aaq h]
   by_cases e:p.1=j
   ·rw[jj (p:=(p.1,y)) e,jj e,ab7,aaq (e.symm.trans h)]
   ·rw[je (p:=(p.1,y)) e,je e,ih]
  ·rw[aal h]
   by_cases e:p.1=j
   ·rw[jj (p:=p) e,jj e,ab7,aal (fun z=>h (e.trans z))]
   ·rw[je (p:=p) e,je e,ih]
theorem Bj(k j:κ)(y:V):∀kvs:List (κ×V),iN kvs k=none→iN (kvs++[(k,y)]) j=if j=k then some y else iN kvs j
 | [],_=>by
  by_cases e:k=j
  ·rw[aaq e.symm];exact jj (p:=(k,y)) e
  ·rw[aal (fun z=>e z.symm)];exact je (p:=(k,y)) e
 | p::r,hn=>by
  rw[List.cons_append]
  have hk:¬p.1=k:=fun z=>by rw[jj z] at hn;cases hn
  rw[je hk] at hn
  have ih:=Bj k j y r hn
  by_cases e:p.1=j
  ·rw[jj e,jj e,aal (fun z=>hk (e.trans z))]
  ·rw[je e,je e,ih]
theorem j4(kvs:List (κ×V))(k j:κ)(y:V):iN (putK kvs k y) j=if j=k then some y else iN kvs j:=by
 unfold putK
 by_cases a:(kvs.any fun kv=>decide (kv.1=k))=true
 ·rw[aaq a,DH]
  rw[rn] at a
  by_cases e:j=k
  ·obtain⟨x,hx⟩:=Option.isSome_iff_exists.mp a
   rw[aaq e,e,hx,ab7,aaq rfl]
  ·rw[aal e]
   cases iN kvs j with
   | none=>rfl
   | some x=>rw[ab7,aal e]
 ·rw[aal a]
  refine Bj k j y kvs ?_
  rw[rn] at a
  cases q:iN kvs k with
  | none=>rfl
  | some x=>rw[q] at a;exact(a rfl).elim
theorem js(kvs:List (κ×V))(k:κ)(v:V):(putK kvs k v).length≤kvs.length+1:=by
 unfold putK
 split
 ·rw[So];omega
 ·rw[Vq,aaf,List.length_nil];omega
theorem DI{kvs:List (κ×V)}{k:κ}(v:V)(h:iN kvs k=none):putK kvs k v=kvs++[(k,v)]:=by
 unfold putK
 rw[rn,h]
 exact aal (by decide)
theorem pk.pw{o:Option V}{u:Option Value}(r:pk o u):o.isSome=u.isSome:=by
 cases o with
 | none=>cases u with
  | none=>rfl
  | some _=>exact(show False from r).elim
 | some _=>cases u with
  | none=>exact(show False from r).elim
  | some _=>rfl
theorem pk.getD{o:Option V}{u:Option Value}{d:V}{d':Value}(r:pk o u)(rd:RelV d d'):RelV (o.getD d) (u.getD d'):=by
 cases o with
 | none=>cases u with
  | none=>exact rd
  | some _=>exact(show False from r).elim
 | some _=>cases u with
  | none=>exact(show False from r).elim
  | some _=>exact r
theorem KV.val{kvs:List (κ×V)}{vs:List (κ×Value)}(r:KV kvs vs)(k:κ):pk (iN kvs k) (valueAt vs k):=by
 unfold KV at r
 induction r with
 | nil=>exact True.intro
 | @cons p q ps qs h t ih=>
  obtain⟨h1,h2⟩:=h
  by_cases e:p.1=k
  ·have e':q.1=k:=h1.symm.trans e
   have b:valueAt (q::qs) k=some q.2:=by simp[valueAt,ab6,e']
   rw[jj e,b];exact h2
  ·have e':¬q.1=k:=fun z=>e (h1.trans z)
   have b:valueAt (q::qs) k=valueAt qs k:=by simp[valueAt,ab6,e']
   rw[je e,b];exact ih
theorem KV.any{kvs:List (κ×V)}{vs:List (κ×Value)}(r:KV kvs vs)(k:κ):(kvs.any fun kv=>decide (kv.1=k))=vs.any fun kv=>decide (kv.1=k):=by
 unfold KV at r
 induction r with
 | nil=>rfl
 | cons h t ih=>rw[List.any_cons,List.any_cons,ih,h.1]
theorem KV.N5{kvs:List (κ×V)}{vs:List (κ×Value)}(r:KV kvs vs)(k:κ){y:V}{u:Value}(ry:RelV y u) :
  KV (kvs.map fun kv=>if kv.1=k then(kv.1,y) else kv) (vs.map fun kv=>if kv.1=k then(kv.1,u) else kv):=by
 unfold KV at r ⊢
 induction r with
 | nil=>exact .nil
 | @cons p q ps qs h t ih=>
  rw[aaw,aaw]
  refine .cons ?_ ih
  obtain⟨h1,h2⟩:=h
  by_cases e:p.1=k
  ·rw[aaq e,aaq (h1.symm.trans e)];exact⟨h1,ry⟩
  ·rw[aal e,aal (fun z=>e (h1.trans z))];exact⟨h1,h2⟩
theorem KV.put{kvs:List (κ×V)}{vs:List (κ×Value)}(r:KV kvs vs)(k:κ){y:V}{u:Value}(ry:RelV y u):KV (putK kvs k y) (stored vs k u):=by
 unfold putK stored
 rw[r.any k]
 by_cases e:(vs.any fun kv=>decide (kv.1=k))=true
 ·rw[aaq e,aaq e];exact r.N5 k ry
 ·rw[aal e,aal e];exact Paired.snoc r ⟨rfl,ry⟩
theorem KV.drop{kvs:List (κ×V)}{vs:List (κ×Value)}(r:KV kvs vs)(k:κ):KV (jP kvs k) (without vs k):=by
 unfold KV at r ⊢
 unfold jP without
 induction r with
 | nil=>exact .nil
 | @cons p q ps qs h t ih=>
  obtain⟨h1,h2⟩:=h
  rw[abh,abh]
  by_cases e:p.1=k
  ·have a:¬decide (p.1≠k)=true:=by simp[e]
   have b:¬decide (q.1≠k)=true:=by simp[h1.symm.trans e]
   rw[aal a,aal b];exact ih
  ·have e':¬q.1=k:=fun z=>e (h1.trans z)
   have a:decide (p.1≠k)=true:=by simp[e]
   have b:decide (q.1≠k)=true:=by simp[e']
   rw[aaq a,aaq b];exact .cons ⟨h1,h2⟩ ih
theorem KV.length{kvs:List (κ×V)}{vs:List (κ×Value)}(r:KV kvs vs):kvs.length=vs.length:=aan r
theorem DJ(kvs:List (κ×V))(k:κ):(jP kvs k).length≤kvs.length:=aaG _ _
end
theorem zd{P:Program}{w:World}{k:Key}{u:Value}(r:RelV (kV k) u):(ja P w).is k u=true:=by
 cases k with
 | inl i=>obtain⟨t,e⟩:=(show ∃t,u=Value.int i t from r);subst e;exact Di P w i t
 | inr x=>obtain⟨t,e⟩:=(show ∃t,u=Value.str x t from r);subst e;exact Dj P w x t
theorem Bk{P:Program}{w:World}:∀{ks:List Key} {us:List Value},Vals (ks.map kV) us→ItemsAre (ja P w) ks us
 | [],_,r=>by rw[List.map_nil] at r;cases r;exact .nil
 | k::ks,_,r=>by
  rw[aaw] at r
  cases r with
  | cons h t=>exact .cons (zd h) (Bk t)
abbrev KT(H:Hp):List (List Key×V)→List (List Key×Addr×Value)→Prop:=Paired fun p q=>p.1=q.1∧H q.2.1=some (.tup (p.1.map kV))∧RelV p.2 q.2.2
theorem KT.val{H:Hp}{kvs:List (List Key×V)}{xs:List (List Key×Addr×Value)}(r:KT H kvs xs)(k:List Key):pk (iN kvs k) ((atKey xs k).map (·.2)):=by
 induction r with
 | nil=>exact True.intro
 | @cons p q ps qs h t ih=>
  obtain⟨h1,_,h2⟩:=h
  by_cases e:p.1=k
  ·have e':q.1=k:=h1.symm.trans e
   have b:atKey (q::qs) k=some q.2:=by simp[atKey,ab6,e']
   rw[jj e,b];exact h2
  ·have e':¬q.1=k:=fun z=>e (h1.trans z)
   have b:atKey (q::qs) k=atKey qs k:=by simp[atKey,ab6,e']
   rw[je e,b];exact ih
theorem KT.N5{H:Hp}{kvs:List (List Key×V)}{xs:List (List Key×Addr×Value)}(r:KT H kvs xs)(k:List Key){y:V}{u:Value}(ry:RelV y u) :
  KT H (kvs.map fun kv=>if kv.1=k then(kv.1,y) else kv) (xs.map (putAt k u)):=by
 induction r with
 | nil=>exact .nil
 | @cons p q ps qs h t ih=>
  rw[aaw,aaw]
  refine .cons ?_ ih
  obtain⟨h1,h2,h3⟩:=h
  unfold putAt
  by_cases e:p.1=k
  ·rw[aaq e,aaq (h1.symm.trans e)];exact⟨h1,h2,ry⟩
  ·rw[aal e,aal (fun z=>e (h1.trans z))];exact⟨h1,h2,h3⟩
theorem KT.put{H:Hp}{kvs:List (List Key×V)}{xs:List (List Key×Addr×Value)}(r:KT H kvs xs)(k:List Key){b:Addr}{y:V}{u:Value}(hb:H b=some (.tup (k.map kV)))(ry:RelV y u) :
  KT H (putK kvs k y) (storedH xs k b u):=by
 have e:(kvs.any fun kv=>decide (kv.1=k))=(atKey xs k).isSome:=by
  rw[rn,(r.val k).pw,Option.isSome_map]
 unfold putK storedH
 rw[e]
 by_cases q:(atKey xs k).isSome=true
 ·rw[aaq q,aaq q];exact r.N5 k ry
 ·rw[aal q,aal q];exact Paired.snoc r ⟨rfl,hb,ry⟩
theorem KT.keeps{H H':Hp}{kvs:List (List Key×V)}{xs:List (List Key×Addr×Value)}(r:KT H kvs xs)(ht:∀b ys,H b=some (.tup ys)→H' b=some (.tup ys)):KT H' kvs xs:=
 Paired.kJ r fun _ _ z=>⟨z.1,ht _ _ z.2.1,z.2.2⟩
section
variable{P:Program}{w:World}{H:Hp}{h:Heap}{a:Addr}
theorem MW{u:HO}(ok:qO P w H h)(e:Rd H a u):i3 P w H h a u:=e.ok ok
theorem xu{kvs:List (Key×V)}(ok:qO P w H h)(e:Rd H a (.dK kvs)):kvs.length≤sizeLine∧(a ==sysModules)=false∧∃vs,KV kvs vs∧h.DictOf (ja P w) a vs:=
 show i3 P w H h a (.dK kvs) from MW ok e
theorem IT{kvs:List (Key×V)}(ok:qO P w H h)(e:H a=some (.dK kvs)):kvs.length≤sizeLine∧(a ==sysModules)=false∧∃vs,KV kvs vs∧h.DictOf (ja P w) a vs:=xu ok (.inl e)
theorem ub{ks:List Key}(ok:qO P w H h)(e:H a=some (.tup (ks.map kV))):(tupleKind (ja P w)).is h ks a:=by
 obtain⟨_,gK,r,o,h1,h2,n,h3⟩:=(show i3 P w H h a (.tup (ks.map kV)) from ok a _ e)
 exact⟨o,gK.toArray,n,h1,h2,h3,by simpa using Bk r⟩
theorem xv{kvs:List (List Key×V)}(ok:qO P w H h)(e:Rd H a (.dT kvs)):kvs.length≤sizeLine∧(a ==sysModules)=false∧
  ∃xs,KT H kvs xs∧h.DictOfH (tupleKind (ja P w)) a xs:=by
 obtain⟨z,y,xs,r,o,es,ep,h1,h2,h3,h4,h5⟩:=(show i3 P w H h a (.dT kvs) from MW ok e)
 refine⟨z,y,xs,r,o,es,ep,h1,h2,h3,h4,fun x hx=>?_,h5⟩
 have all:∀{l:List (List Key×V)} {m:List (List Key×Addr×Value)},KT H l m→∀x∈m,(tupleKind (ja P w)).is h x.1 x.2.1:=by
  intro l m q
  induction q with
  | nil=>intro x hx;exact nomatch hx
  | @cons p q ps qs hq t ih=>
   intro x hx
   rcases Wg.mp hx with e|hx
   ·subst e
    exact ub ok (by rw[←hq.1];exact hq.2.1)
   ·exact ih x hx
 exact all r x hx
theorem IU{kvs:List (List Key×V)}(ok:qO P w H h)(e:H a=some (.dT kvs)):kvs.length≤sizeLine∧(a ==sysModules)=false∧
 ∃xs,KT H kvs xs∧h.DictOfH (tupleKind (ja P w)) a xs:=xv ok (.inl e)
end
def i7(H:Hp)(a:Addr)(y:V)(r:Option V):Prop:=
 (∃kvs k,Rd H a (.dK kvs)∧y=kV k∧r=iN kvs k)∨∃kvs k b,Rd H a (.dT kvs)∧y=.ref b∧H b=some (.tup (k.map kV))∧r=iN kvs k
def nv(H:Hp)(a:Addr)(y v:V)(H':Hp):Prop:=
 (∃kvs k,H a=some (.dK kvs)∧y=kV k∧kvs.length<sizeLine∧H'=upd H a (.dK (putK kvs k v)))∨
 ∃kvs k b,H a=some (.dT kvs)∧y=.ref b∧H b=some (.tup (k.map kV))∧kvs.length<sizeLine∧H'=upd H a (.dT (putK kvs k v))
theorem i7.k{H:Hp}{a:Addr}{kvs:List (Key×V)}{k:Key}(e:H a=some (.dK kvs)):i7 H a (kV k) (iN kvs k):=.inl ⟨kvs,k,.inl e,rfl,rfl⟩
theorem i7.t{H:Hp}{a b:Addr}{kvs:List (List Key×V)}{k:List Key}(e:H a=some (.dT kvs))(eb:H b=some (.tup (k.map kV))):i7 H a (.ref b) (iN kvs k):=.inr ⟨kvs,k,b,.inl e,rfl,eb,rfl⟩
theorem nv.k{H:Hp}{a:Addr}{kvs:List (Key×V)}{k:Key}{v:V}(e:H a=some (.dK kvs))(hl:kvs.length<sizeLine):nv H a (kV k) v (upd H a (.dK (putK kvs k v))):=.inl ⟨kvs,k,e,rfl,hl,rfl⟩
theorem nv.t{H:Hp}{a b:Addr}{kvs:List (List Key×V)}{k:List Key}{v:V}(e:H a=some (.dT kvs))(eb:H b=some (.tup (k.map kV)))(hl:kvs.length<sizeLine) :
 nv H a (.ref b) v (upd H a (.dT (putK kvs k v))):=.inr ⟨kvs,k,b,e,rfl,eb,hl,rfl⟩
section
variable{X:Cx}{c_:Qqz}{σ:St}{H:Hp}{s:Shared}{a:Addr}{y v:V}{u r:Value}{o:Option V}{A:Around}{E:Qqq}
theorem Inv.big(I:Inv X c_ σ H s):sysModules<s.heap.objs.size:=by
 have h:mainGlobals<s.heap.objs.size:=(I.mod.glob.keeps I.bk).lt
 exact Nat.lt_trans (by decide) h
theorem Hk{Q:Qqq}(hu:A.units+1<cLine)(I:Inv X c_ σ H s)(g:i7 H a y (some v))(ry:RelV y u)(h:∀w' s',Inv X c_ σ H s'→RelV v w'→Q w' s') :
  wpAny (model X.prog X.w) A (getItem (.ref a) u) Q E s:=by
 rcases g with⟨kvs,k,e,ey,l⟩|⟨kvs,k,b,e,ey,eb,l⟩
 ·subst ey
  obtain⟨z,hd,vs,rel,dd⟩:=xu I.iG e
  obtain⟨w',hw,Ag⟩:=pk.some_of (v:=v) (o:=valueAt vs k) (by rw[l];exact rel.val k)
  exact wpAny_getItem_of (zd ry) dd.mapOf hw (h w' _ (I.tok _) Ag)
 ·subst ey
  cases (show u=Value.ref b from ry)
  obtain⟨z,hd,xs,rel,dd⟩:=xv I.iG e
  obtain⟨w',hw,Ag⟩:=pk.some_of (v:=v) (o:=(atKey xs k).map (·.2)) (by rw[l];exact rel.val k)
  obtain⟨p,hp,AG⟩:=Option.map_eq_some_iff.mp hw
  refine wpAny_getItem_heap (abz hu) (ub I.iG eb) dd hp ?_
  rw[AG]
  exact h w' _ (I.tok _) Ag
theorem Vl{Q:Qqq}(hu:A.units+1<cLine)(I:Inv X c_ σ H s)(g:i7 H a y o)(ry:RelV y u)(h:∀s',Inv X c_ σ H s'→Q (.bool o.isSome) s') :
  wpAny (model X.prog X.w) A (compareOp .In u (.ref a)) Q E s:=by
 rcases g with⟨kvs,k,e,ey,l⟩|⟨kvs,k,b,e,ey,eb,l⟩
 ·subst ey
  obtain⟨z,hd,vs,rel,dd⟩:=xu I.iG e
  refine wpAny_in_of (zd ry) hd dd.mapOf ?_
  rw[←(rel.val k).pw,←l]
  exact h _ (I.tok _)
 ·subst ey
  cases (show u=Value.ref b from ry)
  obtain⟨z,hd,xs,rel,dd⟩:=xv I.iG e
  refine wpAny_in_heap (abz hu) (ub I.iG eb) hd dd ?_
  have q:=(rel.val k).pw
  rw[Option.isSome_map] at q
  rw[←q,←l]
  exact h _ (I.tok _)
theorem Ly{Q:Qqq}(hu:A.units+1<cLine)(I:Inv X c_ σ H s)(g:i7 H a y o)(ry:RelV y u)(h:∀s',Inv X c_ σ H s'→Q (.bool (!o.isSome)) s') :
  wpAny (model X.prog X.w) A (compareOp .NotIn u (.ref a)) Q E s:=by
 rcases g with⟨kvs,k,e,ey,l⟩|⟨kvs,k,b,e,ey,eb,l⟩
 ·subst ey
  obtain⟨z,hd,vs,rel,dd⟩:=xu I.iG e
  refine wpAny_notIn_of (zd ry) hd dd.mapOf ?_
  rw[←(rel.val k).pw,←l]
  exact h _ (I.tok _)
 ·subst ey
  cases (show u=Value.ref b from ry)
  obtain⟨z,hd,xs,rel,dd⟩:=xv I.iG e
  refine wpAny_notIn_heap (abz hu) (ub I.iG eb) hd dd ?_
  have q:=(rel.val k).pw
  rw[Option.isSome_map] at q
  rw[←q,←l]
  exact h _ (I.tok _)
theorem sT{h':Heap}{t':Nat}{ob:HO}(I:Inv X c_ σ H s)(mu:MQ (H a))(hs:Heap.SameBut a s.heap h')(he:∃q,h'.get? a=some q)(new:i3 X.prog X.w (upd H a ob) h' a ob) :
  Inv X c_ σ (upd H a ob) {s with heap:=h',toks:=t'}:=
 I.write (x:=a) (e:=a) mu (.inl rfl) (fun b q hb z=>(hs.2 b hb).trans z) he new
theorem Fj{P:Program}{w:World}{H':Hp}{h':Heap}{kvs:List (Key×V)}{vs:List (Key×Value)}(z:kvs.length≤sizeLine)(hd:(a ==sysModules)=false)(rel:KV kvs vs)(dd:h'.DictOf (ja P w) a vs) :
 i3 P w H' h' a (.dK kvs):=⟨z,hd,vs,rel,dd⟩
theorem Hl{H':Hp}{Q:Unit→Shared→Prop}(hu:A.units+1<cLine)(I:Inv X c_ σ H s)(g:nv H a y v H')(ry:RelV y u)(rv:RelV v r)(h:∀s',Inv X c_ σ H' s'→Q () s') :
  wpAny (model X.prog X.w) A (setItem (.ref a) u r) Q E s:=by
 rcases g with⟨kvs,k,e,ey,l,eH⟩|⟨kvs,k,b,e,ey,eb,l,eH⟩
 ·subst ey eH
  obtain⟨z,hd,vs,rel,dd⟩:=IT I.iG e
  have hz:vs.length≤sizeLine:=by rw[←rel.length];exact z
  have hl:(putK kvs k v).length≤sizeLine:=by have:=js kvs k v;omega
  refine wpAny_setItem_pairs (hsz:=hz) (zd ry) dd fun h' K8 hs=>h _ ?_
  have he:∃q,h'.get? a=some q:=let ⟨q,_,_,hq,_⟩:=K8;⟨q,hq⟩
  exact sT I (by rw[e];exact True.intro) hs he (Fj hl hd (rel.put k rv) K8)
 ·subst ey eH
  cases (show u=Value.ref b from ry)
  obtain⟨z,hd,xs,rel,dd⟩:=IU I.iG e
  have hz:xs.length≤sizeLine:=by rw[←aan rel];exact z
  have hl:(putK kvs k v).length≤sizeLine:=by have:=js kvs k v;omega
  refine wpAny_setItem_heap (hsz:=hz) (abz hu) (ub I.iG eb) dd fun h' K8 hs=>h _ ?_
  obtain⟨q,es,ep,hq,h2,h3,h4,_,h5⟩:=K8
  refine sT I (by rw[e];exact True.intro) hs ⟨q,hq⟩ ⟨hl,hd,_,(rel.put k eb rv).keeps fun c ys ec=>?_,q,es,ep,hq,h2,h3,h4,h5⟩
  rw[e_ (i4 ec e (fun z=>nomatch z))]
  exact ec
end
section
variable{X:Cx}{c_:Qqz}{σ:St}{H:Hp}{s:Shared}{a:Addr}{kvs:List (Key×V)}{k:Key}{u:Value}{A:Around}{E:Qqq}
theorem Q4{v:V}{more:List Value}{Q:Qqq}(I:Inv X c_ σ H s)(e:H a=some (.dK kvs))(ry:RelV (kV k) u)(l:iN kvs k=some v)(hm:more=[]∨∃x,more=[x])
  (h:∀w' s',Inv X c_ σ (upd H a (.dK (jP kvs k))) s'→RelV v w'→Q w' s'):wpAny (model X.prog X.w) A (call (.builtin "dict.pop") (.ref a::u::more)) Q E s:=by
 obtain⟨z,hd,vs,rel,dd⟩:=IT I.iG e
 obtain⟨w',hw,Ag⟩:=pk.some_of (v:=v) (o:=valueAt vs k) (by rw[←l];exact rel.val k)
 have hp:(keyPart u).isSome=true:=by
  cases k with
  | inl i=>obtain⟨t,q⟩:=(show ∃t,u=Value.int i t from ry);subst q;rfl
  | inr x=>obtain⟨t,q⟩:=(show ∃t,u=Value.str x t from ry);subst q;rfl
 have ha:argsOk "dict.pop" ⟨.ref a::u::more,[]⟩:=by
  rcases hm with q|⟨x,q⟩
  ·subst q;exact PySem.F.args_dict_pop_2 _ _
  ·subst q;exact PySem.F.args_dict_pop_3 _ _ _
 refine call_meetsIn ab8 dd.typeIs PySem.F.entry_dict_pop ha (meets_dict_pop_there (ja X.prog X.w) a (zd ry) more hm hp)
  ⟨vs,w',dd,by rw[←rel.length];exact z,hw,fun h' K8 hs=>h w' _ ?_ Ag⟩
 have he:∃q,h'.get? a=some q:=let ⟨q,_,_,hq,_⟩:=K8;⟨q,hq⟩
 exact sT I (by rw[e];exact True.intro) hs he (Fj (aac (DJ kvs k) z) hd (rel.drop k) K8)
end
def N6(i:Expr):Prop:=∀ov iv,subscripted i false ov iv=operate [ov,iv] (getItem ov iv)
theorem Lz{prog:Program}{w:World}{A:Around}{E:Qqq}{s:Shared}{env:Env}{value slice:Expr}{pos:Pos}{T id:String}{Q:Qqq}
  (hl:typeLookup (.type T) "__getitem__"=pure (some (.builtin id))) (hs:N6 slice)
  (h:wpAny (model prog w) A (eval value env) (fun o s₁=>wpAny (model prog w) A (eval slice env) (fun i s₂=>s₂.TypeIs o T∧wpAny (model prog w) A (getItem o i) Q E s₂) E s₁) E s) :
  wpAny (model prog w) A (eval (.Subscript value slice pos) env) Q E s:=by
 refine Subscript_ (abo h (fun o s₁ h₁=>abo h₁ (fun i s₂ h₂=>?_) fun _ _ x=>x) fun _ _ x=>x)
 obtain⟨hT,h₂⟩:=h₂
 unfold subscriptTail
 refine Ss ?_
 rw[getitemInPython_of_ne hT.not_modules]
 refine Ss (ab9 hT hl ?_)
 have fin:wpAny (model prog w) A (subscripted slice false o i) (fun r s₃=>wpAny (model prog w) A (letTemporaryGo value o r >>= fun _=>pure r) Q E s₃) E s₂:=by
  rw[hs o i]
  exact wpAny_operating (abo h₂ (fun r s₃ h₃=>Ss (wpAny_letTemporaryGo (aai h₃))) fun _ _ x=>x)
 first
  | exact aai (Ss fin)
  | exact Ss (aai (Ss fin))
  | exact Ss fin
theorem DK{X:Cx}{c_:Qqz}{σ:St}{H:Hp}{s:Shared}{a:Addr}{y:V}{o:Option V}(I:Inv X c_ σ H s)(g:i7 H a y o):s.TypeIs (.ref a) "dict":=by
 rcases g with⟨kvs,k,e,_,_⟩|⟨kvs,k,b,e,_,_,_⟩
 ·obtain⟨_,_,vs,_,dd⟩:=xu I.iG e
  exact dd.typeIs
 ·obtain⟨_,_,xs,_,dd⟩:=xv I.iG e
  exact dd.typeIs
def MX(td ty:TE):TE:=fun σ H Q=>td σ H fun x H1=>ty σ H1 fun y H2=>∃a v,x=.ref a∧i7 H2 a y (some v)∧Q v H2
def Vm(ty td:TE):TE:=fun σ H Q=>ty σ H fun y H1=>td σ H1 fun x H2=>∃a o,x=.ref a∧i7 H2 a y o∧Q (.bl o.isSome) H2
def LA(ty td:TE):TE:=fun σ H Q=>ty σ H fun y H1=>td σ H1 fun x H2=>∃a o,x=.ref a∧i7 H2 a y o∧Q (.bl (!o.isSome)) H2
def Q5(td ty tv:TE):TS:=fun D σ H=>tv σ H fun v H1=>td σ H1 fun x H2=>ty σ H2 fun y H3=>∃a H4,x=.ref a∧nv H3 a y v H4∧D.nx σ H4
section
variable{X:Cx}{o i e value:Expr}{pos pos' Pg:Pos}{td ty tv:TE}
theorem LB(hu:X.A.units+1<cLine)(ho:PE X o td)(hi:PE X i ty)(hs:N6 i):PE X (.Subscript o i pos) (MX td ty):=by
 intro c_ s σ H Q I h
 refine Lz PySem.F.slot_dict_getitem.lookup hs (iS (ho c_ s σ H _ I h) fun u s1 ⟨x,H1,I1,rx,q1⟩=>iS (hi c_ s1 σ H1 _ I1 q1) fun iv s2 ⟨y,H2,I2,ry,a,v,ex,g,q2⟩=>?_)
 subst ex
 obtain rfl:u=Value.ref a:=rx
 exact⟨DK I2 g,Hk hu I2 g ry fun w' s3 I3 Ag=>⟨v,H2,I3,Ag,q2⟩⟩
theorem oZ(hu:X.A.units+1<cLine)(hi:PE X i ty)(ho:PE X o td):PC X .In i o (Vm ty td):=by
 intro c_ s σ H Q I h
 refine iS (hi c_ s σ H _ I h) fun iv s1 ⟨y,H1,I1,ry,q1⟩=>iS (ho c_ s1 σ H1 _ I1 q1) fun u s2 ⟨x,H2,I2,rx,a,ov,ex,g,q2⟩=>?_
 subst ex
 obtain rfl:u=Value.ref a:=rx
 exact Vl hu I2 g ry fun s3 I3=>⟨.bl ov.isSome,H2,I3,rfl,q2⟩
theorem k9(hu:X.A.units+1<cLine)(hi:PE X i ty)(ho:PE X o td):PC X .NotIn i o (LA ty td):=by
 intro c_ s σ H Q I h
 refine iS (hi c_ s σ H _ I h) fun iv s1 ⟨y,H1,I1,ry,q1⟩=>iS (ho c_ s1 σ H1 _ I1 q1) fun u s2 ⟨x,H2,I2,rx,a,ov,ex,g,q2⟩=>?_
 subst ex
 obtain rfl:u=Value.ref a:=rx
 exact Ly hu I2 g ry fun s3 I3=>⟨.bl (!ov.isSome),H2,I3,rfl,q2⟩
theorem jy(hu:X.A.units+1<cLine)(ho:PE X o td)(hi:PE X i ty)(hv:PE X value tv)(hs:swapsWith value (some (.Subscript o i pos')) pos.line X.env=pure false) :
  PS X (.Assign [.Subscript o i pos'] value pos) (Q5 td ty tv):=by
 intro c_ s σ H D I h
 refine wpAny_Assign_Subscript (iS (hv c_ s σ H _ I h) fun r s1 ⟨v,H1,I1,rv,q1⟩=>iS (ho c_ s1 σ H1 _ I1 q1) fun u s2 ⟨x,H2,I2,rx,q2⟩=>iS (hi c_ s2 σ H2 _ I2 q2) fun iv s3 ⟨y,H3,I3,ry,a,H4,ex,g,q3⟩=>?_) hs
 subst ex
 obtain rfl:u=Value.ref a:=rx
 exact Hl hu I3 g ry rv fun s4 I4=>⟨σ,H4,I4,q3⟩
end
theorem IV{P:Program}{w:World}{H:Hp}(h:Heap)(hb:sysModules<h.objs.size):i3 P w H (h.push {cls:=.type "dict",data:=.dict #[]}) h.objs.size (.dK []):=
 ⟨aaI _,beq_eq_false_iff_ne.mpr (abF (aaN hb)),[],.nil,Heap.DictOf.new h⟩
theorem IW{P:Program}{w:World}{H:Hp}(h:Heap)(hb:sysModules<h.objs.size):i3 P w H (h.push {cls:=.type "dict",data:=.dict #[]}) h.objs.size (.dT []):=
 ⟨aaI _,beq_eq_false_iff_ne.mpr (abF (aaN hb)),[],.nil,_,#[],0,aax _ rfl,⟨rfl,rfl,rfl⟩,rfl,rfl,abg⟩
def N7:TE:=fun _ H Q=>∀p,H p=none→Q (.ref p) (upd H p (.dK []))
def N8:TE:=fun _ H Q=>∀p,H p=none→Q (.ref p) (upd H p (.dT []))
section
variable{X:Cx}{pos:Pos}
theorem nH:PE X (.Dict [] [] pos) N7:=fun c_ s σ H Q I h=>
 wpAny_Dict_empty ⟨.ref s.heap.objs.size,_,I.laid (a:=s.heap.objs.size) (o:=.dK []) (t':=s.toks) (fun _ _ q=>YH _ q) (Vx _) (IV s.heap I.big),rfl,h _ (I.iG.fresh (Vx _))⟩
theorem mD:PE X (.Dict [] [] pos) N8:=fun c_ s σ H Q I h=>
 wpAny_Dict_empty ⟨.ref s.heap.objs.size,_,I.laid (a:=s.heap.objs.size) (o:=.dT []) (t':=s.toks) (fun _ _ q=>YH _ q) (Vx _) (IW s.heap I.big),rfl,h _ (I.iG.fresh (Vx _))⟩
end
structure M1(X:Cx)(o:Expr)(m:Str)(apos:Pos)(e:Expr)(kO:Pos):Prop where
 base:attributeBase o m X.env (eval o X.env)=eval o X.env
 jI:((backTo kO (starEach [e] X.env)).all (fun x=>!x.1)&&(backToKw kO (keywordEach [] X.env)).all (fun x=>x.1.isSome)
  &&decide (([e]:List Expr).length+([]:List Keyword).length+(if([]:List Keyword).isEmpty then 0 else 1)<30))=true
 line:(apos.endLine ==kO.line)=true
 trees:backTo kO (starEach [e] X.env)=[(false,eval e X.env)]
structure M2(X:Cx)(o:Expr)(m:Str)(apos:Pos)(e f:Expr)(kO:Pos):Prop where
 base:attributeBase o m X.env (eval o X.env)=eval o X.env
 jI:((backTo kO (starEach [e,f] X.env)).all (fun x=>!x.1)&&(backToKw kO (keywordEach [] X.env)).all (fun x=>x.1.isSome)
  &&decide (([e,f]:List Expr).length+([]:List Keyword).length+(if([]:List Keyword).isEmpty then 0 else 1)<30))=true
 line:(apos.endLine ==kO.line)=true
 trees:backTo kO (starEach [e,f] X.env)=[(false,eval e X.env),(false,eval f X.env)]
def Qa(H:Hp)(a:Addr):Prop:=(∃kvs,Rd H a (.dK kvs))∨∃kvs,Rd H a (.dT kvs)
theorem ze{X:Cx}{c_:Qqz}{σ:St}{H:Hp}{s:Shared}{a:Addr}(I:Inv X c_ σ H s)(d:Qa H a) :
  s.TypeIs (.ref a) "dict"∧(∀b,Value.ref a=.ref b→∃ob,s.heap.get? b=some ob∧ob.dict=none)∧(a ==sysModules)=false:=by
 rcases d with⟨kvs,e⟩|⟨kvs,e⟩
 ·obtain⟨_,hd,vs,_,dd⟩:=xu I.iG e
  refine⟨dd.typeIs,fun b q=>?_,hd⟩
  cases q
  obtain⟨ob,_,_,h1,h2,_⟩:=dd
  exact⟨ob,h1,h2.2.1⟩
 ·obtain⟨_,hd,xs,_,dd⟩:=xv I.iG e
  refine⟨dd.typeIs,fun b q=>?_,hd⟩
  cases q
  obtain⟨ob,_,_,h1,h2,_⟩:=dd
  exact⟨ob,h1,h2.2.1⟩
section
variable{X:Cx}{c_:Qqz}{σ:St}{H:Hp}{s:Shared}{a:Addr}{y d:V}{u r:Value}{o:Option V}{A:Around}{E:Qqq}
theorem N9{Q:Qqq}(hu:A.units+1<cLine)(I:Inv X c_ σ H s)(g:i7 H a y o)(ry:RelV y u)(rd:RelV d r)(h:∀w' s',Inv X c_ σ H s'→RelV (o.getD d) w'→Q w' s') :
  wpAny (model X.prog X.w) A (call (.builtin "dict.get") [.ref a,u,r]) Q E s:=by
 rcases g with⟨kvs,k,e,ey,l⟩|⟨kvs,k,b,e,ey,eb,l⟩
 ·subst ey
  obtain⟨z,hd,vs,rel,dd⟩:=xu I.iG e
  refine call_meetsIn PySem.F.slot_dict_get dd.typeIs PySem.F.entry_dict_get (PySem.F.args_dict_get_3 _ _ _) (meets_dict_get_default (ja X.prog X.w) a (zd ry) hd r) ⟨_,dd.mapOf,h _ _ (I.tok _) ?_⟩
  rw[l]
  exact(rel.val k).getD rd
 ·subst ey
  cases (show u=Value.ref b from ry)
  obtain⟨z,hd,xs,rel,dd⟩:=xv I.iG e
  refine call_meetsIn PySem.F.slot_dict_get dd.typeIs PySem.F.entry_dict_get (PySem.F.args_dict_get_3 _ _ _) (meetsH_dict_get_default (tupleKind (ja X.prog X.w)) a b hd r) ⟨abz hu,k,xs,ub I.iG eb,dd,h _ _ (I.tok _) ?_⟩
  rw[l]
  exact(rel.val k).getD rd
end
def N_(td ty tx:TE):TE:=fun σ H Q=>td σ H fun x H1=>∃a,x=.ref a∧Qa H1 a∧ty σ H1 fun y H2=>tx σ H2 fun z H3=>∃o,i7 H3 a y o∧Q (o.getD z) H3
def Oa(td ty:TE):TE:=fun σ H Q=>td σ H fun x H1=>∃a,x=.ref a∧Qa H1 a∧ty σ H1 fun y H2=>∃kvs k v,H2 a=some (.dK kvs)∧y=kV k∧iN kvs k=some v∧Q v (upd H2 a (.dK (jP kvs k)))
section
variable{X:Cx}{o e f:Expr}{apos kO:Pos}{td ty tx:TE}
theorem IX(hu:X.A.units+1<cLine)(ho:PE X o td)(he:PE X e ty)(hf:PE X f tx)(m:M2 X o "get" apos e f kO):PE X (.Call (.Attribute o "get" apos) [e,f] [] kO) (N_ td ty tx):=by
 intro c_ s σ H Q I h
 refine wpAny_Call_method m.base m.jI m.line abC PySem.F.slot_dict_get PySem.F.type_dict_get (iS (ho c_ s σ H _ I h) fun u s1 ⟨x,H1,I1,rx,a,ex,d,q1⟩=>?_)
 subst ex
 obtain rfl:u=Value.ref a:=rx
 obtain⟨t1,t2,_⟩:=ze I1 d
 refine⟨t1,t2,?_⟩
 rw[m.trees]
 refine abd rfl (abp (abb (iS (he c_ s1 σ H1 _ I1 q1) fun iv s2 ⟨y,H2,I2,ry,q2⟩=>
  abb (iS (hf c_ s2 σ H2 _ I2 q2) fun fv s3 ⟨z,H3,I3,rz,ov,g,q3⟩=>abw ?_))))
 exact N9 hu I3 g ry rz fun w' s4 I4 Ag=>⟨_,H3,I4,Ag,q3⟩
theorem IY(ho:PE X o td)(he:PE X e ty)(m:M1 X o "pop" apos e kO):PE X (.Call (.Attribute o "pop" apos) [e] [] kO) (Oa td ty):=by
 intro c_ s σ H Q I h
 refine wpAny_Call_method m.base m.jI m.line abC ab8 PySem.F.type_dict_pop (iS (ho c_ s σ H _ I h) fun u s1 ⟨x,H1,I1,rx,a,ex,d,q1⟩=>?_)
 subst ex
 obtain rfl:u=Value.ref a:=rx
 obtain⟨t1,t2,_⟩:=ze I1 d
 refine⟨t1,t2,?_⟩
 rw[m.trees]
 refine abd rfl (abp (abb (iS (he c_ s1 σ H1 _ I1 q1) fun iv s2 ⟨y,H2,I2,ry,kvs,k,v,ea,ey,l,q2⟩=>abw ?_)))
 subst ey
 exact Q4 I2 ea ry l (.inl rfl) fun w' s3 I3 Ag=>⟨v,_,I3,Ag,q2⟩
end
section
variable{X:Cx}{c_:Qqz}{σ:St}{H:Hp}{s:Shared}{a:Addr}{kvs:List (Key×V)}{A:Around}{E:Qqq}
end
section
variable{X:Cx}{c_:Qqz}{σ:St}{H:Hp}{s:Shared}{a:Addr}{y:V}{u:Value}{A:Around}{E:Qqq}
end
end L2
namespace YG
open PySem PySem.W PySem.Calls PyProof.Rows
theorem yv{P:Params}{h:Heap}:∀(ns:List Int)(vs:List Value),WellAll P h vs (ns.map WData.int)→IntsAre vs ns:=by
 intro ns
 induction ns with
 | nil=>
  intro vs w
  rw[List.map_nil] at w
  cases w
  exact .nil
 | cons n ns ih=>
  intro vs w
  rw[aaw] at w
  cases w with
  | cons a b=>
   cases a
   exact .cons _ _ (ih _ b)
theorem Hn{l:OpenLaw}{n:Nat}(hn:l.most=some n){P:Params}{h:Heap}{args:List WData}{vals:List Value}
  (Ii:l.row.toRowW.claim.pre args=true) (Ir:WellAll P h vals args) :
  ∃a vs ns,vals=[Value.ref a]∧args=[WData.list (ns.map WData.int)]∧h.get? a=some {cls:=.type "list",data:=.seq vs.toArray}∧IntsAre vs ns∧ns.length≤n:=by
 have hsh:WShape.hasAll [] args [.list .int]=true:=(pre_splitW Ii).1
 have hc:l.pre.holds [] {args:=args}=true:=(pre_splitW Ii).2
 obtain⟨d,r,rfl,h1,h2⟩:=hasAllW_cons hsh
 obtain rfl:=hasAllW_nil h2
 obtain⟨xs,rfl,h3⟩:=hasW_list h1
 obtain⟨ns,rfl⟩:=items_int h3
 have hlen:ns.length≤n:=by
  unfold OpenLaw.pre at hc
  have h4:(WTm.not (.lt (.lit (.int (n:Int))) (.len (.arg 0)))).holds [] {args:=[.list (ns.map .int)]}=true:=by
   have h4:=(holds_andW hc).1
   rw[hn] at h4
   exact h4
  have h5:=condW_of h4 (w_not (w_lt w_lit (w_len_list (w_arg rfl))))
  rw[So] at h5
  refine Nat.le_of_not_lt fun q=>?_
  have q':(n:Int)<((ns.length:Nat):Int):=by omega
  first
   | (rw[Vy q'] at h5;exact absurd h5 (by decide))
   | (simp at h5;omega)
 cases Ir with
 | cons w1 w2=>
  cases w2
  cases w1 with
  | list ho CS=>exact⟨_,_,ns,rfl,rfl,ho,yv ns _ CS,hlen⟩
theorem Ho(l:OpenLaw)(args:List WData):l.row.toRowW.claim.post args (.bool true) args=true:=
 postW_of (r:=l.row.toRowW) (X:=(true ==true))
  (show WShape.has [] (.bool true) .bool=true by first|rfl|decide|simp[WShape.has,WShape.arms,WShape.armsAll])
  (show(WTm.eq .res (.lit (.bool true))).value [] {args:=args,res:=some (.bool true),after:=args}=some (.bool (true ==true)) from w_eq_bool (w_res rfl) w_lit) rfl
theorem DL{l:OpenLaw}{n:Nat}{q:Program}{loose:List Str}{XP:(Qqx)→Heap→Prop}{YP:World→Heap→Prop}{d:DefRec}
  (hn:l.most=some n) (R4:d.params.defaults=[])
  (call:∀(w:World)(s₀ s₁:Shared)(mg mb:Qqx)(fa:Addr)(o:Obj)(pm cd doc:Value)(a:Addr)(vs:List Value)(ns:List Int),
   Ground q loose [] XP w s₀ mg mb s₁.heap→YP w s₁.heap→
   s₁.heap.get? fa=some o→o.data=.func (docDef d.name d.params d.body d.scope pm cd doc)→s₁.heap.CodeRec cd d.name→mg d.name=some (.ref fa)→
   s₁.heap.get? a=some {cls:=.type "list",data:=.seq vs.toArray}→IntsAre vs ns→ns.length≤n→s₁.gens=#[]→
   codeAny (model l.prog w) callerA (.call (.ref fa) ⟨[.ref a],[]⟩) (fun r s'=>r=.ok (.ret (.bool true))∧OldK s₁.heap s'.heap∧s'.os=s₁.os∧AllBare s'.gens) s₁) :
  WalkO q loose XP YP l.row.toRowW d [] (fun f vs=>PySem.call f vs):=by
 intro w s₀ s₁ mg mb G Y fa o pm cd doc dV kV ho hd BM hD R5 hg args vals as Ii hlay hrd Ir VU
 obtain rfl:dV=.none:=Dflts.none hD R4
 obtain rfl:kV=.none:=Dflts.noKw hD
 obtain⟨a,vs,ns,rfl,rfl,Pj,hints,hlen⟩:=Hn hn Ii Ir
 refine enter_call (codeAny_mono (call w s₀ s₁ mg mb fa o pm cd doc a vs ns G Y ho (fd_plain hd) BM R5 Pj hints hlen hg) fun r s' hq=>?_)
 obtain⟨rfl,h2,h3,h4⟩:=hq
 exact⟨.inl ⟨.bool true,.bool true,[],rfl,fun _=>rfl,.bool true,Ho l _,fun _=>⟨List.Pairwise.nil,fun _ hm=>(nomatch hm)⟩⟩,h2,h3,h4⟩
section
variable{prog:Program}{w:World}{A:Around}{E:Qqq}{s:Shared}{K:Frag}
def ledger(h:Heap)(L d:Addr):Qqz:=(List.range h.objs.size).filterMap fun a=>if a=L∨a=d then none else(h.get? a).map fun o=>(a,o)
end
end YG
namespace L2
open PySem PySem.Spec PyProof.Rows
theorem Bl:∀{vs:List Value} {ns:List Int},IntsAre vs ns→Vals (ns.map V.int) vs
 | _,_,.nil=>.nil
 | _,_,.cons n t h=>.cons ⟨t,rfl⟩ (Bl h)
def Ob(H:Hp):Prop:=∀b,H b=none∨∃o xs,H b=some (.nc o (.lst xs))
theorem IZ{P:Program}{w:World}{K:Qqy}{mg mb:Qqx}{CX:Gr}{k:Nat}{fa a:Addr}{fd:FuncData}{x:Str}{sp:Sp}{s₁:Shared}{vs:List Value}{ns:List Int}
  (KX:K.In s₁.heap) (Pk:s₁.heap.Ns mainGlobals mg) (hb:s₁.heap.Ns builtinsNs mb) (hbb:∀x:Str,x≠"__name__"→mb x=bootBuiltins x) (VV:s₁.heap.NoLimit) (hg:s₁.gens=#[])
  (ha:s₁.heap.get? a=some {cls:=.type "list",data:=.seq vs.toArray}) (hi:IntsAre vs ns) (hl:ns.length≤sizeLine) (hr:ko k callerA)
  (F:∀base:Heap,K.In base→base.Ns mainGlobals mg→ij P w K mg base CX k fa fd [x] sp) (R6:∀(s:Shared)(u:Value),BindsTo s fd ⟨[u],[]⟩ [(x,u)])
  (K7:∀H:Hp,Ob H→gF K H a (ns.map V.int)→sp [.ref a] H (fun v _=>v=.bl true) fun _ _ _=>False)
  (VW:∀H e s',CX [] H s₁ (fun _ _ _=>False) e s'→False) :
  codeAny (model P w) callerA (.call (.ref fa) ⟨[.ref a],[]⟩) (fun r s'=>r=.ok (.ret (.bool true))∧OldK s₁.heap s'.heap∧s'.os=s₁.os∧AllBare s'.gens) s₁:=by
 have rv:=Bl hi
 have VX:=hi.length
 have core:∀H:Hp,Ob H→gF K H a (ns.map V.int)→qO P w H s₁.heap→(∀b,H b≠none→b=a)→(H a≠none→K.lookup a=none)→
   codeAny (model P w) callerA (.call (.ref fa) ⟨[.ref a],[]⟩) (fun r s'=>r=.ok (.ret (.bool true))∧OldK s₁.heap s'.heap∧s'.os=s₁.os∧AllBare s'.gens) s₁:=by
  intro H hO hS iG hA hK
  have G2:∀{b:Addr} {o:Obj},s₁.heap.get? b=some o→H b=none→(BR s₁.heap H).get? b=some o:=fun e n=>IA e n
  have R0:∀{b:Addr} {o:Obj} {es:Array DictEntry} {ep:Nat},s₁.heap.get? b=some o→o.data=.dict es ep→H b=none:=fun{b o es ep} e d=>by
   cases q:H b with
   | none=>rfl
   | some u=>
    have e':b=a:=hA b (by rw[q];simp)
    subst e'
    rw[ha] at e;cases e
    have d':Data.seq vs.toArray _=Data.dict es ep:=d
    cases d'
  have T_:∀{b:Addr} {m:Qqx},s₁.heap.Ns b m→(BR s₁.heap H).Ns b m:=fun{b m} ⟨o,es,ep,e,d,r⟩=>⟨o,es,ep,G2 e (R0 e d),d,r⟩
  have YX:K.In (BR s₁.heap H):=fun b o e=>G2 (KX b o e) (by
   cases q:H b with
   | none=>rfl
   | some u=>
    have e':b=a:=hA b (by rw[q];simp)
    subst e'
    rw[hK (by rw[q];simp)] at e;cases e)
  have hM:Mod K mg (BR s₁.heap H):=⟨YX,T_ Pk,⟨mb,T_ hb,hbb⟩,let ⟨mc,h1,h2⟩:=VV;⟨mc,T_ h1,h2⟩⟩
  have e0:Fc P w K mg (BR s₁.heap H) callerA [] s₁ H:=⟨rfl,hM,fun b o e=>Lg e,acj (G8 _ _),trivial,fun b hb=>absurd (show b∈([]:List Addr) from hb) (by simp),iG,.of_eq hg⟩
  refine codeAny_mono ((F _ YX (T_ Pk)).run callerA [] s₁ H ⟨[.ref a],[]⟩ [.ref a] [.ref a] _ _ hr e0 (R6 s₁ (.ref a)) (.cons rfl .nil) (K7 H hO hS)) fun r s' h=>?_
  cases r with
  | error e=>exact(VW H e s' h).elim
  | ok fl=>
   cases fl with
   | next=>exact False.elim h
   | brk=>exact False.elim h
   | cont=>exact False.elim h
   | ret u=>
    obtain⟨v,H',os,bare,un,VY,r',q⟩:=h
    have q':v=.bl true:=q
    subst q'
    obtain rfl:u=Value.bool true:=r'
    refine⟨rfl,OldK.of_keep fun b o e=>?_,os,bare⟩
    cases q:H b with
    | none=>exact un.keep b o e q (by intro z;exact absurd (show b∈([]:List Addr) from z) (by simp)) (by simp)
    | some u=>
     rcases hO b with z|⟨ob,xs,z⟩
     ·rw[q] at z;cases z
     ·have z2:=un.uI b ob _ z
      obtain⟨e1,_⟩:=iG b _ z
      obtain⟨e2,_⟩:=VY b _ z2
      rw[e] at e1;cases e1
      exact e2
 cases hk:K.lookup a with
 | some o=>
  have e:=KX a o hk
  rw[ha] at e
  cases e
  refine core (fun _=>none) (fun _=>.inl rfl) (.inr ⟨_,vs.toArray,_,hk,rfl,rfl,rfl,by rw[YM,VX];exact hl,by simpa using rv⟩) (fun b u z=>by have z':(none:Option HO)=some u:=z;cases z') (fun b z=>absurd rfl z) fun z=>absurd rfl z
 | none=>
  refine core (fun b=>if b=a then some (.nc {cls:=.type "list",data:=.seq vs.toArray} (.lst (ns.map V.int))) else none) (fun b=>?_) (.inl (.inr ⟨{cls:=.type "list",data:=.seq vs.toArray},aaq rfl⟩)) (fun b u z=>?_) (fun b z=>?_) fun _=>hk
  ·by_cases hb:b=a
   ·exact .inr ⟨_,_,aaq hb⟩
   ·exact .inl (aal hb)
  ·by_cases hb:b=a
   ·have z':=(aaq hb).symm.trans z
    cases z'
    subst hb
    exact⟨ha,by rw[So];exact hl,vs,_,rv,ha⟩
   ·have z':=(aal hb).symm.trans z
    cases z'
  ·by_cases hb:b=a
   ·exact hb
   ·exact absurd (aal hb) z
theorem LC{l:W.OpenLaw}{n k:Nat}{q:Program}{loose:List Str}{XP:(Qqx)→Heap→Prop}{YP:World→Heap→Prop}{d:DefRec}{K:Params→Qqy}{CX:World→Gr}{sp:World→Sp}{x:Str}
  (hn:l.most=some n) (Pe:n≤sizeLine) (R4:d.params.defaults=[]) (hr:ko k callerA)
  (hY:∀(w:World)(h:Heap),YP w h→(K w.params).In h)
  (F:∀(w:World)(mg:Qqx)(fa:Addr)(h:Heap),(K w.params).In h→h.Ns mainGlobals mg→mg d.name=some (.ref fa)→
   ∃fd:FuncData,(∀(s:Shared)(u:Value),BindsTo s fd ⟨[u],[]⟩ [(x,u)])∧
    ∀base:Heap,(K w.params).In base→base.Ns mainGlobals mg→ij l.prog w (K w.params) mg base (CX w) k fa fd [x] (sp w))
  (K7:∀(w:World)(H:Hp)(a:Addr)(ns:List Int),ns.length≤n→Ob H→gF (K w.params) H a (ns.map V.int)→sp w [.ref a] H (fun v _=>v=.bl true) fun _ _ _=>False)
  (VW:∀(w:World)(H:Hp)(s:Shared)(e:Value)(s':Shared),CX w [] H s (fun _ _ _=>False) e s'→False) :
  W.WalkO q loose XP YP l.row.toRowW d [] (fun f vs=>PySem.call f vs):=by
 refine YG.DL hn R4 fun w s₀ s₁ mg mb fa o pm cd doc a vs ns G Y ho hd BM R5 Pj hints hlen hg=>?_
 have KX:=hY w _ Y
 obtain⟨fd,hb,hF⟩:=F w mg fa _ KX G.T.g R5
 exact IZ KX G.T.g G.T.b G.T.builtins G.T.nolimit hg Pj hints (aac hlen Pe) hr hF hb (fun H hO hS=>K7 w H a ns hlen hO hS) fun H e s'=>VW w H s₁ e s'
noncomputable def inClass(s:Stmt)(j:Nat):Stmt:=match s with
 | .ClassDef _ _ _ body _ _ _ _ _ _ _=>body.getD j (.Pass ⟨0,0,0,0⟩)
 | _=>.Pass ⟨0,0,0,0⟩
noncomputable def ox(s:Stmt):Arguments:=match s with
 | .FunctionDef _ a _ _ _ _ _ _ _ _=>a
 | _=>{posonlyargs:=[],args:=[],vararg:=none,kwonlyargs:=[],kw_defaults:=[],kwarg:=none,defaults:=[]}
noncomputable def kT(s:Stmt):List Stmt:=match s with
 | .FunctionDef _ _ b _ _ _ _ _ _ _=>b
 | _=>[]
noncomputable def gb(s:Stmt):Scope:=match s with
 | .FunctionDef _ _ _ _ _ _ sc _ _ _=>sc
 | _=>{kind:=.function,names:=[],isGenerator:=false,isCoroutine:=false}
abbrev l5:Gr:=fun _ _ _ _ _ _=>False
abbrev E0:XK:=fun _ _ _=>False
theorem oy{X:Cx}:Passes l5 X E0:=fun _ _ _ _ _ _ _ h=>h.elim
structure xw(K:Qqy)(x qual:Str)(st:Stmt)(f:Addr)(fd:FuncData):Prop where
 ex:∃(oc:Value)(od:Option Addr)(kV doc pm:Value)(an:Option Addr)(jm ct:Value)(Iq:Array (Option Value)),
  fd=W.fnOf x qual (ox st) (kT st) (gb st) .none kV doc pm an jm ct∧K.lookup f=some ⟨oc,od,.func fd,Iq⟩∧W.codeIn K jm qual=true
 kp:W.keepIn K (.ref f)=true
section
variable{P:Program}{w:World}{K:Qqy}{mg:Qqx}{base:Heap}
theorem xw.ok{x qual:Str}{st:Stmt}{f:Addr}{fd:FuncData}{N ps:List Str}{k:Nat}{sp:Sp}(F:xw K x qual st f fd)(S:gw N ps (gb st))(len:∀vs H Q E,sp vs H Q E→vs.length=ps.length)
  (vP:∀(jm:Value)(A:Around)(outer:List Env)(s:Shared)(H:Hp)(vs:List V)(Q:VK)(E:XK),ko k (A.deeper (envOfC qual (gb st) s.heap.objs.size f jm))→sp vs H Q E→
   ∃t,EW (wa l5 P w K mg base N qual (gb st) f jm A outer s H E).QL (kT st) t∧t {nx:=fun _ H'=>Q .jl H',rt:=Q} (start N vs) H):ij P w K mg base l5 (k+1) f fd ps sp:=by
 obtain⟨oc,od,kV,doc,pm,an,jm,ct,Iq,rfl,lk,BM⟩:=F.ex
 refine MV lk BM S len fun A outer s H vs Q E hr K7=>?_
 obtain⟨t,h,q⟩:=vP jm A outer s H vs Q E hr K7
 exact⟨t,h.QL,q⟩
theorem xw.binds{x qual:Str}{st:Stmt}{f:Addr}{fd:FuncData}{ps:List Str}(F:xw K x qual st f fd)
  (h:∀(kV doc pm:Value)(an:Option Addr)(jm ct:Value)(us:List Value),us.length=ps.length→bindArgs (W.fnOf x qual (ox st) (kT st) (gb st) .none kV doc pm an jm ct) ⟨us,[]⟩=pure (ps.zip us)):Binds K fd ps []:=by
 obtain⟨oc,od,kV,doc,pm,an,jm,ct,Iq,rfl,lk,BM⟩:=F.ex
 exact .all (h kV doc pm an jm ct)
theorem I_{x qual:Str}{st:Stmt}{f:Addr}{oc:Value}{od an:Option Addr}{Iq:Array (Option Value)}{kV doc pm jm ct:Value}(l:K.lookup f=some ⟨oc,od,.func (W.fnOf x qual (ox st) (kT st) (gb st) .none kV doc pm an jm ct),Iq⟩)
 (c:W.codeIn K jm qual=true) (k:W.keepIn K (.ref f)=true):xw K x qual st f (W.fnOf x qual (ox st) (kT st) (gb st) .none kV doc pm an jm ct):=⟨⟨oc,od,kV,doc,pm,an,jm,ct,Iq,rfl,l,c⟩,k⟩
end
theorem iV{A:Around}{k:Nat}(hr:ko k A):A.units+1<cLine:=abm (Nat.add_le_add_left (by decide:1≤64) _) hr.units
section
variable{X:Cx}
theorem pv(i:Nat){x:Str}{pos:Pos}(hN:X.N[i]?=some x:=by rfl)(hv:UU X.env.scope x:=by first|exact Or.inl rfl|exact Or.inr (Or.inl rfl)|exact Or.inr (Or.inr rfl))(hd:(x ==("__debug__":Str))=false:=by decide)
 (BM:(x ==("__classdict__":Str))=false:=by decide):PE X (.Name x pos) (QH i):=NL hN hv hd BM
end
theorem jz{A B:Prop}(h:B):if false=true then A else B:=by
 rw[aal aad]
 exact h
theorem l6{A B:Prop}(h:A):if true=true then A else B:=by
 rw[aaq rfl]
 exact h
theorem kq{c A B:Prop}[Decidable c](h1:c→A)(h2:¬c→B):if c then A else B:=by
 by_cases h:c
 ·rw[aaq h]
  exact h1 h
 ·rw[aal h]
  exact h2 h
def gj(H H':Hp):Prop:=∀b o,H b=some o→H' b=some o
theorem gj.refl(H:Hp):gj H H:=fun _ _ h=>h
theorem gj.trans{H H1 H2:Hp}(a:gj H H1)(b:gj H1 H2):gj H H2:=fun c o h=>b c o (a c o h)
theorem gj.free{H H':Hp}(e:gj H H'){l:Addr}(h:H' l=Option.none):H l=Option.none:=by
 cases q:H l with
 | none=>rfl
 | some o=>
  rw[e l o q] at h
  cases h
section
variable{κ:Type}[DecidableEq κ]
theorem wb{p:κ×V}{r:List (κ×V)}{k:κ}(e:p.1=k):jP (p::r) k=jP r k:=by
 unfold jP
 rw[abh,aal (by simp[e])]
theorem wc{p:κ×V}{r:List (κ×V)}{k:κ}(e:¬p.1=k):jP (p::r) k=p::jP r k:=by
 unfold jP
 rw[abh,aaq (by simp[e])]
end
section
variable{prog:Program}{w:World}{A:Around}{R:Result→Shared→Prop}{s:Shared}
abbrev Io:Qqq:=fun _ _=>False
theorem uS{elt target iter:Expr}{ifs:List Expr}{scope:Scope}{pos:Pos}{it acc:Value}{env:Env}(I:Nat→Shared→Prop)
  (turn:∀n s,I n s→wpAny (model prog w) A (pyNext it) (fun r s1=>match r with
   | none=>R (.ok .next) s1
   | some v=>wpAny (model prog w) A (letOwnedTupleGo target it v) (fun _ YY=>wpAny (model prog w) A (assign target env v) (fun _ s2=>
    wpAny (model prog w) A (forIn ifs true fun c r=>if r=true then do let ok ←isTrue c env (eval c env);pure (ForInStep.yield ok) else pure (ForInStep.yield r)) (fun ok s3=>
     if ok=true then wpAny (model prog w) A (eval elt env) (fun x s4=>wpAny (model prog w) A (call (.builtin "list.append") [acc,x]) (fun _ s5=>∃m,m<n∧I m s5) Io s4) Io s3
     else ∃m,m<n∧I m s3) Io s2) Io YY) Io s1) Io s)
  (n:Nat) (h:I n s):codeAny (model prog w) A (.compLoop (.ListComp elt [⟨target,iter,ifs,0⟩] scope pos) 0 it acc env) R s:=by
 refine codeAny_loop rfl I (fun n s hI=>?_) n h
 show wpAny _ A ((compTurn (.ListComp elt [⟨target,iter,ifs,0⟩] scope pos) 0 it acc env).onRaise (fun x=>do noteFrame x env;theTreesLotGoes x)) _ _ s
 refine wpAny_noted ?_
 rw[compTurn_list]
 refine Ss (wpAny_standAt (Ss (abo (turn n s hI) (fun r s1 h1=>?_) fun _ _ h'=>h'.elim)))
 cases r with
 | none=>exact aai h1
 | some v=>
  refine Ss (abo h1 (fun _ YY Mz=>?_) fun _ _ h'=>h'.elim)
  refine Ss (abo Mz (fun _ s2 h2=>Ss (abo h2 (fun ok s3 h3=>?_) fun _ _ h'=>h'.elim)) fun _ _ h'=>h'.elim)
  cases ok with
  | false=>exact aai ⟨rfl,h3⟩
  | true=>
   exact Ss (Ss (abo h3 (fun x s4 h4=>Ss (abo h4 (fun _ s5 h5=>aai (aai ⟨rfl,h5⟩)) fun _ _ h'=>h'.elim)) fun _ _ h'=>h'.elim))
end
noncomputable def i5(cells:List (Str×Addr)):List (Str×NameKind)→List (Str×Addr)→List (Str×Addr)
 | [],cs=>cs
 | (n,k)::r,cs=>i5 cells r (if k ==.free then(n,(cells.lookup n).getD 0)::cs else cs)
theorem sU{cells:List (Str×Addr)}:∀{names:List (Str×NameKind)} {cs:List (Str×Addr)} {x:Str} {c:Addr},(∀y∈names,y.2=.free→∃c,cells.lookup y.1=some c)→
  (i5 cells names cs).lookup x=some c→cs.lookup x=some c∨cells.lookup x=some c
 | [],_,_,_,_,h=>.inl h
 | (n,k)::r,cs,x,c,hf,h=>by
  rcases sU (fun y hy=>hf y (aaj _ hy)) (show(i5 cells r (if k ==.free then(n,(cells.lookup n).getD 0)::cs else cs)).lookup x=some c from h) with q|q
  ·by_cases hk:(k ==NameKind.free)=true
   ·rw[aaq hk] at q
    by_cases hx:(x ==n)=true
    ·rw[abq,hx] at q
     obtain⟨c',e⟩:=hf (n,k) aav (eq_of_beq hk)
     have e:cells.lookup n=some c':=e
     rw[e] at q
     have q:some c'=some c:=q
     rw[eq_of_beq hx,e,q]
     exact .inr rfl
    ·rw[abq,abE.mpr hx] at q
     exact .inl q
   ·rw[aal hk] at q
    exact .inl q
  ·exact .inr q
theorem zf{cells:List (Str×Addr)}:∀{names:List (Str×NameKind)} {cs:List (Str×Addr)} {x:Str},(∃c,cs.lookup x=some c)→∃c,(i5 cells names cs).lookup x=some c
 | [],_,_,h=>h
 | (n,k)::r,cs,x,h=>by
  refine zf (names:=r) ?_
  by_cases hk:(k ==NameKind.free)=true
  ·rw[aaq hk,abq]
   cases x ==n with
   | true=>exact⟨_,rfl⟩
   | false=>exact h
  ·rw[aal hk];exact h
theorem pz{cells:List (Str×Addr)}:∀{names:List (Str×NameKind)} {cs:List (Str×Addr)} {x:Str},(x,NameKind.free)∈names→∃c,(i5 cells names cs).lookup x=some c
 | [],_,_,h=>nomatch h
 | (n,k)::r,cs,x,h=>by
  rcases Wg.mp h with e|h2
  ·cases e
   refine zf (names:=r) ⟨(cells.lookup n).getD 0,?_⟩
   rw[aaq (by rfl),abq,ace]
  ·exact pz (names:=r) h2
theorem o3{scope:Scope}{env:Env}(hf:∀y∈scope.names,y.2=.free→∃c,env.cells.lookup y.1=some c):closureFor scope env=pure (i5 env.cells scope.names []):=by
 have key:∀(names:List (Str×NameKind))(cs:List (Str×Addr)),(∀y∈names,y.2=.free→∃c,env.cells.lookup y.1=some c)→
   (forIn names cs fun(x:Str×NameKind) (r:List (Str×Addr))=>(match x with
    | (name,kind)=>if(kind ==NameKind.free)=true then(do let a ←cellOf env name;pure (ForInStep.yield ((name,a)::r))) else pure (ForInStep.yield r):Sem (ForInStep (List (Str×Addr)))))=(pure (i5 env.cells names cs):Sem (List (Str×Addr))):=by
  intro names
  induction names with
  | nil=>intro cs _;rfl
  | cons y r ih=>
   intro cs h
   obtain⟨n,k⟩:=y
   rw[List.forIn_cons]
   by_cases hk:(k ==NameKind.free)=true
   ·obtain⟨c,e⟩:=h (n,k) aav (eq_of_beq hk)
    have e:env.cells.lookup n=some c:=e
    have ec:cellOf env n=pure c:=by unfold cellOf;rw[e]
    simp only [hk,if_true,ec,pure_bind]
    rw[ih _ fun y hy=>h y (aaj _ hy)]
    simp only [i5,hk,if_true,e,Option.getD_some]
   ·simp only [hk,ab2,pure_bind,aaO]
    rw[ih _ fun y hy=>h y (aaj _ hy)]
    simp only [i5,hk,ab2,aaO]
 have q:=key scope.names [] hf
 simp only [closureFor]
 first
  | (rw[q];rfl)
  | (simp only [q,pure_bind])
  | exact(aa2 (fun t=>t >>= pure) q).trans (pure_bind _ _)
theorem qP{f:Str→NameKind→NameKind}:∀{names:List (Str×NameKind)} {x:Str},(names.map fun y=>(y.1,f y.1 y.2)).lookup x=(names.lookup x).map (f x)
 | [],_=>rfl
 | (n,k)::r,x=>by
  show List.lookup x ((n,f n k)::_)=_
  rw[abq,abq]
  cases h:x ==n with
  | true=>rw[eq_of_beq h];rfl
  | false=>exact qP (names:=r)
theorem jf{scope:Scope}{env:Env}{x:Str}:(relabel scope env).names.lookup x=(scope.names.lookup x).map fun k=>if(k ==.free&&env.scope.kind ==.function&&env.kindOf x ==some .cell)=true then .cell else k:=by
 have e:(relabel scope env).names=scope.names.map fun y=>(y.1,(fun(n:Str) (k:NameKind)=>if(k ==.free&&env.scope.kind ==.function&&env.kindOf n ==some .cell)=true then NameKind.cell else k) y.1 y.2):=by
  show(scope.names.map _)=_
  refine abG fun y _=>?_
  obtain⟨n,k⟩:=y
  show(if(k ==.free&&env.scope.kind ==.function&&env.kindOf n ==some .cell)=true then(n,NameKind.cell) else(n,k))=(n,if(k ==.free&&env.scope.kind ==.function&&env.kindOf n ==some .cell)=true then NameKind.cell else k)
  split<;>rfl
 rw[e]
 exact qP (f:=fun(n:Str) (k:NameKind)=>if(k ==.free&&env.scope.kind ==.function&&env.kindOf n ==some .cell)=true then NameKind.cell else k)
noncomputable def blank:List Nat→St→St
 | [],σ=>σ
 | i::r,σ=>blank r (σ.set i none)
theorem wd:∀{is:List Nat} {σ:St},(blank is σ).length=σ.length
 | [],_=>rfl
 | i::r,σ=>by
  show(blank r (σ.set i none)).length=_
  rw[wd,ack]
theorem B0{σ:St}{i j:Nat}{v:V}(h:(σ.set i none)[j]?=some (some v)):σ[j]?=some (some v)∧j≠i:=by
 by_cases e:j=i
 ·subst e
  by_cases hl:j<σ.length
  ·rw[abc hl] at h;cases h
  ·rw[List.getElem?_eq_none_iff.mpr (by rw[ack];omega)] at h;cases h
 ·rw[abn (abF e)] at h
  exact⟨h,e⟩
theorem we:∀{is:List Nat} {σ:St} {j:Nat} {v:V},(blank is σ)[j]?=some (some v)→σ[j]?=some (some v)∧j∉is
 | [],_,_,_,h=>⟨h,by simp⟩
 | i::r,σ,j,v,h=>by
  obtain⟨h1,h2⟩:=we (is:=r) (σ:=σ.set i none) h
  obtain⟨h3,h4⟩:=B0 h1
  exact⟨h3,fun m=>(Wg.mp m).elim h4 h2⟩
noncomputable def Hq(N:List Str)(out:List (Str×NameKind))(is:List Nat)(names:List (Str×NameKind)):Bool:=
 (names.all fun y=>y.2 != .cell&&(y.2 != .free||out.lookup y.1 ==some .cell||out.lookup y.1 ==some .free)&&(y.2 != .local||names.lookup y.1 ==some .local))&&
 (N.zipIdx.all fun p=>names.lookup p.1 != some .local||is.contains p.2)
structure B1(N:List Str)(out:List (Str×NameKind))(is:List Nat)(names:List (Str×NameKind)):Prop where
 Fl:∀y∈names,y.2≠.cell
 free:∀y∈names,y.2=.free→out.lookup y.1=some .cell∨out.lookup y.1=some .free
 loc:∀y∈names,y.2=.local→names.lookup y.1=some .local
 own:∀(i:Nat)(x:Str),N[i]?=some x→names.lookup x=some .local→i∈is
theorem B1.of{N:List Str}{out:List (Str×NameKind)}{is:List Nat}{names:List (Str×NameKind)}(h:Hq N out is names=true):B1 N out is names:=by
 unfold Hq at h
 rw[aaT] at h
 obtain⟨h1,h2⟩:=h
 have a:=abr.mp h1
 have b:=abr.mp h2
 refine⟨fun y hy e=>?_,fun y hy e=>?_,fun y hy e=>?_,fun i x hi e=>?_⟩
 ·have q:=a y hy
  rw[e] at q
  simp at q
 ·have q:=a y hy
  simp only [e,aaT,abH,abU,aaO,false_or,abK] at q
  rcases q.1.2 with z|z
  ·exact .inl z
  ·exact .inr z
 ·have q:=a y hy
  simp only [e,aaT,abH,abU,aaO,false_or,abK] at q
  exact q.2
 ·have hm:(x,i)∈N.zipIdx:=by
   rw[aaL]
   exact⟨i,by rw[List.getElem?_zipIdx,hi];simp⟩
  have q:=b (x,i) hm
  simp only [e,abH,abU,aaO,false_or] at q
  exact List.contains_iff_mem.mp q
noncomputable def Cx.block(X:Cx)(scope:Scope)(cl:List (Str×Addr))(C:Addr)(s:Shared)(H:Hp)(ex:List Addr):Cx:=
 {X with env:=compEnvC scope cl C X.env,s₀:=s,H₀:=H,outer:=X.stack,ex:=ex,fn:=fun _=>false,pn:=[],xe:=Io}
section
variable{X:Cx}{c_:Qqz}{σ:St}{H:Hp}{s:Shared}{scope:Scope}{is:List Nat}{ex:List Addr}{C:Addr}
theorem zg(I:Inv X c_ σ H s)(hs:B1 X.N X.env.scope.names is scope.names):∀y∈scope.names,y.2=.free→∃c,X.env.cells.lookup y.1=some c:=fun y hy e=>I.ok.has y.1 (hs.free y hy e)
theorem mE(I:Inv X c_ σ H s)(hs:B1 X.N X.env.scope.names is scope.names){x:Str}{c:Addr}(h:(i5 X.env.cells scope.names []).lookup x=some c):X.env.cells.lookup x=some c:=
 (sU (zg I hs) h).resolve_left fun z=>nomatch z
theorem Ja(I:Inv X c_ σ H s)(hs:B1 X.N X.env.scope.names is scope.names)(hk:scope.kind=.function)(hC:s.heap.objs.size≤C)(hf:∀b∈ex,qb X c_ H b)(ho:∀b∈ex,∃o,s.heap.get? b=some o) :
  (X.block scope (i5 X.env.cells scope.names []) C s H ex).Ok where
 mod:=I.ok.mod
 kind:=hk
 glob:=I.ok.glob
 blt:=I.ok.blt
 above:=hC
 inj:=fun x y c h1 h2=>I.ok.inj x y c (mE I hs h1) (mE I hs h2)
 has:=fun x hx=>by
  have hx:(relabel scope X.env).names.lookup x=some .cell∨(relabel scope X.env).names.lookup x=some .free:=hx
  rw[jf] at hx
  cases e:scope.names.lookup x with
  | none=>
   rw[e] at hx
   rcases hx with z|z<;>cases z
  | some k=>
   have hm:(x,k)∈scope.names:=aa6 e
   have hk:k=.free:=by
    rw[e] at hx
    cases k with
    | free=>rfl
    | cell=>exact absurd rfl (hs.Fl _ hm)
    | _=>rcases hx with z|z<;>simp at z
   subst hk
   exact pz hm
 NI:=fun _ _ h=>Bool.noConfusion h
 hd:=I.ok.hd
 frames:=I.ok.frames
 P9:=.inl rfl
 TV:=fun b hb=>by
  obtain⟨o,e⟩:=ho b hb
  exact⟨aaN (aas (aar e) hC),fun x c h=>(hf b hb).2.2.2.2.1 x c (mE I hs h)⟩
 bs:=I.bs
 IB:=aac I.ok.IB I.sz
 q_:=fun b o e hb=>by
  rcases(hf b hb).2.2.2.1 with z|z
  ·exact I.ok.q_ b o e z
  ·exact absurd (aas (aar (I.ok.bs b o e).1) z) (aa4 _)
 G9:=fun b hb hm=>by
  rcases Wg.mp (I.qa b hm) with z|z
  ·exact(hf b hb).2.1 z
  ·exact(hf b hb).2.2.1 z
 tZ:=I.stack
 Li:=I.yO
theorem Hr{h':Heap}{t':Nat}{pl:Qqz}(I:Inv X c_ σ H s)(hs:B1 X.N X.env.scope.names is scope.names)(hk:scope.kind=.function)(hC:s.heap.objs.size≤C)(hf:∀b∈ex,qb X c_ H b)(ho:∀b∈ex,∃o,s.heap.get? b=some o)
  (old:∀b o,s.heap.get? b=some o→h'.get? b=some o) {m:Qqx} (hn:h'.Ns C m)
  (hp:∀p∈pl,h'.get? p.1=some p.2∧s.heap.objs.size≤p.1∧p.1≠C∧∀v,p.2.data≠.cell v) :
  Inv (X.block scope (i5 X.env.cells scope.names []) C s H ex) pl (blank is σ) H {s with heap:=h',toks:=t'} where
 ok:=Ja I hs hk hC hf ho
 os:=rfl
 bare:=I.bare
 base:=Un.kept old
 loc:=⟨m,hn,fun i x v h1 h2 h3=>by
  have h3:(relabel scope X.env).names.lookup x=some .local∨(relabel scope X.env).names.lookup x=some .cell∨(relabel scope X.env).names.lookup x=some .free:=h3
  obtain⟨h2,hi⟩:=we h2
  have h1:X.N[i]?=some x:=h1
  cases e:scope.names.lookup x with
  | none=>
   rw[jf,e] at h3
   rcases h3 with z|z|z<;>cases z
  | some k=>
   have hm:(x,k)∈scope.names:=aa6 e
   have hk:k=.free:=by
    rw[jf,e] at h3
    cases k with
    | free=>rfl
    | cell=>exact absurd rfl (hs.Fl _ hm)
    | «local»=>exact absurd (hs.own i x h1 e) hi
    | _=>rcases h3 with z|z|z<;>simp at z
   subst hk
   have hv:X.env.scope.names.lookup x=some .cell∨X.env.scope.names.lookup x=some .free:=hs.free _ hm rfl
   obtain⟨m0,_,hl⟩:=I.loc
   obtain⟨u,r,q⟩:=hl i x v h1 h2 (.inr hv)
   refine⟨u,r,.inr ⟨?_,?_⟩⟩
   ·show(relabel scope X.env).names.lookup x=some .cell∨(relabel scope X.env).names.lookup x=some .free
    rw[jf,e]
    show some (if _ then NameKind.cell else NameKind.free)=_∨some (if _ then NameKind.cell else NameKind.free)=_
    split
    ·exact .inl rfl
    ·exact .inr rfl
   ·rcases q with⟨z,_⟩|⟨_,c,ec,cc⟩
    ·have z:X.env.scope.names.lookup x=some .local:=z
     rcases hv with hv|hv<;>rw[hv] at z<;>cases z
    ·obtain⟨c',e'⟩:=pz (cells:=X.env.cells) (cs:=[]) hm
     have e2:=mE I hs e'
     rw[ec] at e2
     cases e2
     obtain⟨o,ho,hd⟩:=cc
     exact⟨c,e',o,old _ _ ho,hd⟩⟩
 cell:=fun x c h=>by
  obtain⟨v,o,ho,hd⟩:=I.cell x c (mE I hs h)
  exact⟨v,o,old _ _ ho,hd⟩
 free:=I.iG.fresh hC
 nF:=fun x c h=>I.nF x c (mE I hs h)
 pin:=fun p VZ=>by
  obtain⟨h1,h2,h3,h4⟩:=hp p (by simpa[Cx.block] using VZ)
  refine⟨h1,I.iG.fresh h2,h3,fun hm=>?_,h4⟩
  rcases Wg.mp (I.qa p.1 hm) with z|z
  ·exact absurd (aas I.lt (by rw[←z];exact h2)) (aa4 _)
  ·exact I.NJ h2 z
 iG:=I.iG.kept old
 len:=by rw[wd];exact I.len
end
theorem kD{X:Cx}{scope:Scope}{cl:List (Str×Addr)}{C:Addr}{s:Shared}{H:Hp}{ex:List Addr}:(X.block scope cl C s H ex).K=X.K:=rfl
theorem PE.eqv{X:Cx}{e:Expr}{t t':TE}(h:PE X e t')(q:t'=t):PE X e t:=q▸h
def LD(X:Cx)(ifs:List Expr)(t:TT):Prop:=
 ∀(c_:Qqz)(s:Shared)(σ:St)(H:Hp)(Q:Bool→Hp→Prop),Inv X c_ σ H s→t σ H Q→
  wpAny (model X.prog X.w) X.A (forIn ifs true fun c r=>if r=true then do let ok ←isTrue c X.env (eval c X.env);pure (ForInStep.yield ok) else pure (ForInStep.yield r)) (TP X c_ σ Q) X.xe s
def Vn:TT:=fun _ H Q=>Q true H
theorem mK{X:Cx}:LD X [] Vn:=fun _ _ _ H _ I h=>wpAny_tests_nil ⟨H,I,h⟩
theorem nI{X:Cx}{c:Expr}{t:TT}(h:PT X c t):LD X [c] t:=fun c_ s σ H Q I hw=>wpAny_tests_one (h c_ s σ H Q I hw)
def Fm(g:TG)(tt:TT)(te:TE)(J:It)(Q:List V→Hp→Prop)(σ:St)(H:Hp):Prop:=
 ∃W:Nat→Nat→List V→St→Hp→Prop,(∃m,W 0 m [] σ H)∧∀i m ys σ H,W i m ys σ H→
  (J.stop i H∧ys.length≤sizeLine∧Q ys H)∨
  (J.go i H∧ys.length≤sizeLine∧∃N:List V→St→Hp→Prop,(∀Qj σ' H',N Qj σ' H'→∃m',m'<m∧W (i+1) m' Qj σ' H')∧
   ∀x H',J.IE i H x H'→g x σ H' fun σ2 H2=>tt σ2 H2 fun b H3=>if b=true then te σ2 H3 fun v H4=>N (ys++[v]) σ2 H4 else N ys σ2 H3)
def Q6(is:List Nat)(wi:TI)(g:TG)(tt:TT)(te:TE):TE:=fun σ H Q=>wi σ H fun J H1=>Fm g tt te J (fun ys H2=>∀p,H2 p=none→Q (.ref p) (upd H2 p (.lst ys))) (blank is σ) H1
section
variable{P:Program}{w:World}
theorem qO.Q7{H:Hp}{h:Heap}{a:Addr}{o:HO}(x:qO P w H h)(hn:H a=none)(new:i3 P w (upd H a o) h a o):qO P w (upd H a o) h:=fun b u q=>by
 by_cases hb:b=a
 ·subst hb;rw[b_] at q;cases q;exact new
 ·rw[e_ hb] at q
  exact(x b u q).y4 (fun _ _ _ r=>r) (fun c r=>by rw[e_ (gh r hn)];exact r) fun c xs r=>by rw[e_ (gh r hn)];exact r
end
noncomputable abbrev rq(ys:List Value)(n:Nat):Obj:={cls:=.type "list",data:=.seq ys.toArray n}
section
variable{X:Cx}{c_:Qqz}{σ:St}{H:Hp}{s:Shared}{scope:Scope}{is:List Nat}
theorem Bm{E:Qqq}{elt tg iter:Expr}{ifs:List Expr}{pos:Pos}{it:Addr}{fp:List Addr}{tn:Nat→Heap→Prop}{J:It}{g:TG}{tt:TT}{te:TE}{Fin:List V→Hp→Prop}{RR:Value→Addr→Result→Shared→Prop}
  (I:Inv X c_ σ H s) (hc:X.calm=true) (hs:B1 X.N X.env.scope.names is scope.names) (hk:scope.kind=.function)
  (hg:∀C s H ex,PG (X.block scope (i5 X.env.cells scope.names []) C s H ex) tg g) (ht:∀C s H ex,LD (X.block scope (i5 X.env.cells scope.names []) C s H ex) ifs tt)
  (he:∀C s H ex,PE (X.block scope (i5 X.env.cells scope.names []) C s H ex) elt te)
  (T:Turn X.prog X.w X.K tg J fp it tn) (st:tn 0 s.heap) (hf:∀b∈fp,qb X c_ H b) (h:Fm g tt te J Fin (blank is σ) H)
  (V0:∀(D C:Addr)(ys:List V)(gK:List Value)(n:Nat)(H':Hp)(s':Shared)(m:Qqx),s.heap.objs.size≤D→s.heap.objs.size≤C→D≠C→s'.heap.Ns C m→s'.heap.get? D=some (rq gK n)→Vals ys gK→ys.length≤sizeLine→
   H' D=none→H' C=none→s'.os=s.os→AllBare s'.gens→Un (tH X.stack) fp H H' s.heap s'.heap→qO X.prog X.w H' s'.heap→Fin ys H'→RR (.ref D) C (.ok .next) s') :
  wpAny (model X.prog X.w) X.A (newList []) (fun acc s3=>wpAny (model X.prog X.w) X.A (newFunctionEnv scope X.env.globals (i5 X.env.cells scope.names []) [] X.env.qual none .none (some X.env)) (fun KD s4=>
   codeAny (model X.prog X.w) X.A (.compStart (.ListComp elt [⟨tg,iter,ifs,0⟩] scope pos) 0 (.ref it) acc {KD with scope:=relabel scope X.env}) (RR acc KD.locals) s4) E s3) E s:=by
 refine wpAny_newObj_type (wpAny_newFunctionEnv hs.Fl (by intro y hy;simp at hy) (fun h1 KG MA=>?_) hk)
 dsimp only at KG MA ⊢
 generalize Pl:s.heap.push {cls:=.type "list",dict:=none,data:=.seq ([]:List Value).toArray}=H2 at KG MA ⊢
 have hC:H2.objs.size=s.heap.objs.size+1:=by rw[←Pl,abD]
 have EZ:s.heap.objs.size≠H2.objs.size:=by rw[hC];exact aaN (abZ _)
 have EI:s.heap.objs.size≤H2.objs.size:=by rw[hC];exact Nat.le_succ _
 have below:∀b,b<s.heap.objs.size→b≠H2.objs.size∧b≠s.heap.objs.size:=fun b hb=>⟨by rw[hC];exact aaN (Nat.lt_succ_of_lt hb),aaN hb⟩
 have old:∀b o,s.heap.get? b=some o→h1.get? b=some o:=fun b o e=>MA.extBut b o (below b (aar e)).1 (YH _ (Pl▸YH _ e))
 have tE:h1.get? s.heap.objs.size=some (rq [] 0):=MA.extBut _ _ EZ (YH _ (Pl▸aax _ rfl))
 have Qk:∀b∈fp,∃o,s.heap.get? b=some o:=fun b hb=>let ⟨o,e,_⟩:=T.obj 0 _ st b hb;⟨o,e⟩
 have R7:∀b∈fp,b≠s.heap.objs.size:=fun b hb=>let ⟨o,e⟩:=Qk b hb;(below b (aar e)).2
 have V1:∀b∈fp,b≠H2.objs.size:=fun b hb=>let ⟨o,e⟩:=Qk b hb;(below b (aar e)).1
 generalize hD:s.heap.objs.size=D at *
 generalize hCC:H2.objs.size=C at *
 have KH:∀x c,(i5 X.env.cells scope.names []).lookup x=some c→c≠D:=fun x c e z=>by
  obtain⟨v,q⟩:=I.cell x c (mE I hs e)
  exact absurd q.lt (by rw[z,hD];exact aa4 _)
 let XB:=X.block scope (i5 X.env.cells scope.names []) C s H fp
 have I1:Inv XB [(D,rq [] 0)] (blank is σ) H {s with heap:=h1,toks:=s.toks+([]:List (Str×Value)).length}:=
  Hr I hs hk (by rw[hD];exact EI) hf Qk old KG fun p hp=>by
   rw[List.mem_singleton.mp hp]
   exact⟨tE,acj hD,EZ,fun v z=>nomatch z⟩
 have Pm:∀{pl:Qqz} {H':Hp},(∀p∈pl,p.1=D)→(∀b∈fp,H' b=none)→∀b∈fp,qb XB pl H' b:=fun{pl H'} oh hn b hb=>
  ⟨hn b hb,V1 b hb,fun hm=>by
   rcases Wg.mp (I.qa b hm) with z|z
   ·exact(hf b hb).2.1 z
   ·exact(hf b hb).2.2.1 z,.inl hb,fun x c e=>(hf b hb).2.2.2.2.1 x c (mE I hs e),fun p hp=>by
   have hp:p∈pl:=by simpa[XB,Cx.block] using hp
   rw[oh p hp]
   exact abF (R7 b hb)⟩
 obtain⟨W,⟨m0,w0⟩,turn⟩:=h
 have E1:tn 0 h1:=T.keep _ _ _ st fun b _ o e=>old b o e
 have loop:codeAny (model X.prog X.w) X.A (.compLoop (.ListComp elt [⟨tg,iter,ifs,0⟩] scope pos) 0 (.ref it) (.ref D) (compEnvC scope (i5 X.env.cells scope.names []) C X.env)) (RR (.ref D) C) {s with heap:=h1,toks:=s.toks+([]:List (Str×Value)).length}:=by
  refine uS (fun k s'=>∃i ys gK n σ' H',Inv XB [(D,rq gK n)] σ' H' s'∧Vals ys gK∧tn i s'.heap∧(∀b∈fp,H' b=none)∧W i k ys σ' H') ?_ m0 ⟨0,[],[],0,_,_,I1,.nil,E1,fun b hb=>(hf b hb).1,w0⟩
  rintro k s3 ⟨i,ys,gK,n,σ3,H3,I3,vs,lV,Nf,w3⟩
  have oh:∀p∈[(D,rq gK n)],p.1=D:=fun p hp=>by rw[List.mem_singleton.mp hp]
  rcases turn i k ys σ3 H3 w3 with⟨stop,hz,qn⟩|⟨go,hz,N,hN,step⟩
  ·refine iS (T.done XB rfl rfl rfl hc i _ s3 σ3 H3 Io I3 (Pm oh Nf) lV stop) fun r s4 ⟨hr,I4⟩=>?_
   subst hr
   obtain⟨m',Nc,_⟩:=I4.loc
   have pD:=I4.pin (D,rq gK n) (by simp[XB,Cx.block])
   exact V0 D C ys gK n H3 s4 m' (Vx _) EI EZ Nc pD.1 vs hz pD.2.1 I4.free I4.os I4.bare I4.base I4.iG qn
  ·refine iS (T.item XB rfl rfl rfl hc i _ s3 σ3 H3 Io I3 (Pm oh Nf) lV go) fun r s4 ⟨u,hr,h4⟩=>?_
   subst hr
   refine iS h4 fun _ s5 ⟨x,H5,I5,r5,y5,Kx,RX⟩=>?_
   have RY:=I5.pinned (Pm oh RX) (T.obj _ _ Kx)
   refine iS (hg C s H fp _ s5 σ3 H5 x u _ RY r5 (step x H5 y5)) fun _ s6 ⟨σ6,H6,I6,q6⟩=>?_
   have tY:∀{σ7:St} {H7:Hp} {s7:Shared},Inv XB ([(D,rq gK n)]++vY fp s5.heap) σ7 H7 s7→tn (i+1) s7.heap∧∀b∈fp,H7 b=none:=fun{σ7 H7 s7} I7=>
    ⟨T.keep _ _ _ Kx fun b hb o e=>(I7.pin (b,o) (aaA _ (aaA _ (l4 hb e)))).1,fun b hb=>by
     obtain⟨o,e,d⟩:=T.obj _ _ Kx b hb
     exact(I7.pin (b,o) (aaA _ (aaA _ (l4 hb e)))).2.1⟩
   refine iS (ht C s H fp _ s6 σ6 H6 _ I6 q6) fun ok s7 ⟨H7,I7,q7⟩=>?_
   cases ok with
   | false=>
    rw[aal aad] at q7 ⊢
    obtain⟨m',hm,w7⟩:=hN _ _ _ q7
    exact⟨m',hm,i+1,ys,gK,n,σ6,H7,I7.rj,vs,(tY I7).1,(tY I7).2,w7⟩
   | true=>
    rw[aaq rfl] at q7 ⊢
    refine iS (he C s H fp _ s7 σ6 H7 _ I7 q7) fun y s8 ⟨v,H8,I8,r8,n8⟩=>?_
    obtain⟨m',hm,w8⟩:=hN _ _ _ n8
    obtain⟨V2,V3⟩:=tY I8
    have pD:=I8.pin (D,rq gK n) (by simp)
    have hl:=vs.length
    refine append_at (hsz:=by show gK.toArray.size≤sizeLine;rw[YM,←hl];exact hz) pD.1 fun h9 R8 e9=>?_
    have I9:Inv XB [] σ6 H8 {s8 with heap:=h9}:=by
     have J8:Inv XB [] σ6 H8 s8:=I8.sQ fun p hp=>nomatch hp
     exact J8.turned (t':=s8.toks) (it:=D) (fun b o hb e=>R8.extBut b o hb e) pD.2.1 EZ (.inr (acj hD)) (fun x c e=>KH x c e) fun p hp=>by simp[XB,Cx.block] at hp
    refine⟨m',hm,i+1,ys++[v],gK++[y],n+1,σ6,H8,I9.sQ fun p hp=>?_,vs.append (.cons r8 .nil),T.keep _ _ _ V2 fun b hb o e=>R8.extBut b o (R7 b hb) e,V3,w8⟩
    rw[List.mem_singleton.mp hp]
    refine⟨?_,pD.2.1,EZ,fun hm=>?_,fun v z=>nomatch z⟩
    ·rw[e9]
     show some _=some _
     rw[List.push_toArray]
    ·exact pD.2.2.2.1 hm
 exact codeAny_compStart_list loop (T.self _ 0 _ _ _ E1 loop)
variable{elt tg iter:Expr}{ifs:List Expr}{pos EJ py:Pos}{wi:TI}{g:TG}{tt:TT}{te:TE}
theorem rA{D:Addr}{ys:List V}{gK:List Value}{n:Nat}{H':Hp}{s':Shared}{fp:List Addr}(I:Inv X c_ σ H s)(hf:∀b∈fp,qb X c_ H b)(hD:s.heap.objs.size≤D)(e:s'.heap.get? D=some (rq gK n))(vs:Vals ys gK)(hz:ys.length≤sizeLine)
  (nD:H' D=none) (os:s'.os=s.os) (bare:AllBare s'.gens) (un:Un (tH X.stack) fp H H' s.heap s'.heap) (iG:qO X.prog X.w H' s'.heap):Inv X c_ σ (upd H' D (.lst ys)) s':=by
 have neD:∀b o,s.heap.get? b=some o→b≠D:=fun b o q=>aaN (aas (aar q) hD)
 refine I.QG (ch:=fp) os ⟨un.keep,un.slot,fun b o q nn hx=>by rw[e_ (neD b o q)];exact un.free b o q nn hx,un.there,fun b xs q=>?_,fun b o u q=>?_,fun b ps q=>?_⟩ (iG.Q7 nD ⟨hz,gK,n,vs,e⟩) bare fun b hb=>?_
 ·have q':=un.q9 b xs q
  rw[e_ (gh q' nD)];exact q'
 ·have q':=un.uI b o u q
  rw[e_ (gh q' nD)];exact q'
 ·obtain⟨more,q'⟩:=un.yt b ps q
  exact⟨more,by rw[e_ (gh q' nD)];exact q'⟩
 ·obtain⟨f0,f1,f2,f3,f4,f5⟩:=hf b hb
  exact⟨f3,f1,f4,f5⟩
theorem uc{C:Addr}{h':Heap}{s0:Shared}(I:Inv X c_ σ H s)(hC:s0.heap.objs.size≤C)(nC:H C=none)(Pn:Heap.SameBut C s.heap h')(I0:∃σ0 H0,Inv X c_ σ0 H0 s0):Inv X c_ σ H {s with heap:=h'}:=by
 obtain⟨σ0,H0,I0⟩:=I0
 obtain⟨_,f1,_,f3,f4,f5⟩:=I0.yu (H':=fun _=>none) hC rfl
 exact I.turned (t':=s.toks) (fun b o hb e=>Pn.extBut b o hb e) nC f1 f3 f4 f5
theorem xx(N:List Str)(out:List (Str×NameKind))(is:List Nat)(hc:X.calm=true)(hi:PI X tg iter wi)(hk:scope.kind=.function)(hs:Hq N out is scope.names=true)
  (hg:∀C s H ex,PG (X.block scope (i5 X.env.cells scope.names []) C s H ex) tg g) (ht:∀C s H ex,LD (X.block scope (i5 X.env.cells scope.names []) C s H ex) ifs tt)
  (he:∀C s H ex,∃t,PE (X.block scope (i5 X.env.cells scope.names []) C s H ex) elt t∧t=te) (vV:∀x,foldedSetIterable iter X.env x=pure x:=by intro _;rfl) (eN:X.N=N:=by rfl) (eo:X.env.scope.names=out:=by rfl) :
  PE X (.ListComp elt [⟨tg,iter,ifs,0⟩] scope pos) (Q6 is wi g tt te):=by
 intro c_ s σ H Q I h
 subst eN eo
 have S:=B1.of hs
 rw[eval_ListComp]
 refine wpAny_comprehension_free (use:=none) rfl vV (o3 (zg I S)) hk S.loc (iS (hi c_ s σ H _ I h) fun v s1 h1=>iS h1 fun RW s2 h2=>?_)
 obtain⟨it,fp,tn,J,H2,rfl,I2,T,Af,f2,h2⟩:=h2
 refine Bm (RR:=fun acc C=>compPost (model X.prog X.w) X.A X.xe none (EP X c_ σ Q) acc C) I2 hc S hk hg ht (fun C s H ex=>let ⟨_,h,e⟩:=he C s H ex;PE.eqv h e) T Af f2 h2 ?_
 intro D C ys gK n H' s' m hD hC EZ hn e vs hz nD nC os bare un iG q
 have J1:Inv X c_ σ (upd H' D (.lst ys)) s':=rA I2 f2 hD e vs hz nD os bare un iG
 refine⟨m,hn,fun h' Pn=>⟨.ref D,_,uc J1 hC (by rw[e_ (abF EZ)];exact nC) Pn ⟨_,_,I2⟩,rfl,q D nD⟩⟩
theorem Bn{y:Str}{j:Nat}(N:List Str)(out:List (Str×NameKind))(is:List Nat)(hN:X.N.Nodup)(hj:X.N[j]?=some y)(hy:X.env.scope.names.lookup y=some .local)(hc:X.calm=true)(hi:PI X tg iter wi)(hk:scope.kind=.function)(hs:Hq N out is scope.names=true)
  (hg:∀C s H ex,PG (X.block scope (i5 X.env.cells scope.names []) C s H ex) tg g) (ht:∀C s H ex,LD (X.block scope (i5 X.env.cells scope.names []) C s H ex) ifs tt)
  (he:∀C s H ex,∃t,PE (X.block scope (i5 X.env.cells scope.names []) C s H ex) elt t∧t=te)
  (R9:swapsWith (.ListComp elt [⟨tg,iter,ifs,0⟩] scope pos) (some (.Name y py)) EJ.line X.env=pure true:=by rfl) (vV:∀x,foldedSetIterable iter X.env x=pure x:=by intro _;rfl) (eN:X.N=N:=by rfl) (eo:X.env.scope.names=out:=by rfl) :
  PS X (.Assign [.Name y py] (.ListComp elt [⟨tg,iter,ifs,0⟩] scope pos) EJ) (Ha (Q6 is wi g tt te) (k7 j)):=by
 intro c_ s σ H Dn I h
 subst eN eo
 have S:=B1.of hs
 rw[exec_Assign_Name_used _ _ _ _ R9]
 refine Ss (wpAny_standAt (Ss ?_))
 show wpAny _ _ (do let _ ←comprehension (.ListComp elt [⟨tg,iter,ifs,0⟩] scope pos) scope X.env _ (newList []) false (eval iter X.env) (some (assign (.Name y py) X.env))) _ _ s
 refine Ss (abo (wpAny_comprehension_free (use:=some (assign (.Name y py) X.env)) (Q:=fun _ s'=>SP X c_ Dn .next s') rfl vV (o3 (zg I S)) hk S.loc
  (iS (hi c_ s σ H _ I h) fun v s1 h1=>iS h1 fun RW s2 h2=>?_)) (fun _ s' hq=>aai (aai hq)) fun _ _ e=>e)
 obtain⟨it,fp,tn,J,H2,rfl,I2,T,Af,f2,h2⟩:=h2
 refine Bm (RR:=fun acc C=>compPost (model X.prog X.w) X.A X.xe (some (assign (.Name y py) X.env)) (fun _ s'=>SP X c_ Dn .next s') acc C) I2 hc S hk hg ht (fun C s H ex=>let ⟨_,h,e⟩:=he C s H ex;PE.eqv h e) T Af f2 h2 ?_
 intro D C ys gK n H' s' m hD hC EZ hn e vs hz nD nC os bare un iG q
 have J1:Inv X c_ σ (upd H' D (.lst ys)) s':=rA I2 f2 hD e vs hz nD os bare un iG
 show wpAny _ _ (assign (.Name y py) X.env (.ref D)) _ _ _
 refine wpAny_assign_Name (vW J1 hN hj (.inl hy) (v:=.ref D) rfl (fun s5 J5 ⟨a,sb,ha⟩=>?_) (.inr hy))
 have V4:C≠a:=by
  obtain⟨_,f1,_,f3,f4,f5⟩:=I2.yu (H':=fun _=>none) hC rfl
  rcases ha with z|z
  ·rw[z];exact f1
  ·exact fun q=>f4 _ _ z q.symm
 exact⟨m,hn.sameBut sb V4,fun h' Pn=>⟨_,_,uc J5 hC (by rw[e_ (abF EZ)];exact nC) Pn ⟨_,_,I2⟩,q D nD⟩⟩
end
section
variable{X:Cx}{elt tg iter:Expr}{ifs:List Expr}{scope:Scope}{pos:Pos}{wi:TI}{g:TG}{tt:TT}{te:TE}{py EJ:Pos}
theorem wg(N:List Str)(out:List (Str×NameKind))(is:List Nat)(hc:X.calm=true)(hi:PI X tg iter wi)(hk:scope.kind=.function)(hs:Hq N out is scope.names=true)
 (hg:∀C s H ex,PG (X.block scope (i5 X.env.cells scope.names []) C s H ex) tg g) (ht:∀C s H ex,∃t,LD (X.block scope (i5 X.env.cells scope.names []) C s H ex) ifs t∧t=tt)
 (he:∀C s H ex,∃t,PE (X.block scope (i5 X.env.cells scope.names []) C s H ex) elt t∧t=te) (vV:∀x,foldedSetIterable iter X.env x=pure x:=by intro _;rfl) (eN:X.N=N:=by rfl) (eo:X.env.scope.names=out:=by rfl) :
 PE X (.ListComp elt [⟨tg,iter,ifs,0⟩] scope pos) (Q6 is wi g tt te):=xx N out is hc hi hk hs hg (fun C s H ex=>let ⟨_,h,e⟩:=ht C s H ex;e▸h) he vV eN eo
theorem B2{y:Str}{j:Nat}(N:List Str)(out:List (Str×NameKind))(is:List Nat)(hN:X.N.Nodup)(hj:X.N[j]?=some y)(hy:X.env.scope.names.lookup y=some .local)(hc:X.calm=true)(hi:PI X tg iter wi)(hk:scope.kind=.function)(hs:Hq N out is scope.names=true)
 (hg:∀C s H ex,PG (X.block scope (i5 X.env.cells scope.names []) C s H ex) tg g) (ht:∀C s H ex,∃t,LD (X.block scope (i5 X.env.cells scope.names []) C s H ex) ifs t∧t=tt)
 (he:∀C s H ex,∃t,PE (X.block scope (i5 X.env.cells scope.names []) C s H ex) elt t∧t=te)
 (R9:swapsWith (.ListComp elt [⟨tg,iter,ifs,0⟩] scope pos) (some (.Name y py)) EJ.line X.env=pure true:=by rfl) (vV:∀x,foldedSetIterable iter X.env x=pure x:=by intro _;rfl) (eN:X.N=N:=by rfl) (eo:X.env.scope.names=out:=by rfl) :
 PS X (.Assign [.Name y py] (.ListComp elt [⟨tg,iter,ifs,0⟩] scope pos) EJ) (Ha (Q6 is wi g tt te) (k7 j)):=Bn N out is hN hj hy hc hi hk hs hg (fun C s H ex=>let ⟨_,h,e⟩:=ht C s H ex;e▸h) he R9 vV eN eo
end
theorem rB{lo:Int}{n:Nat}{g:TG}{tt:TT}{te:TE}{Q:List V→Hp→Prop}{σ:St}{H:Hp}(hn:n≤sizeLine)(Pv:Nat→List V→St→Hp→Prop)(h0:Pv 0 [] σ H)(hlen:∀i ys σ H,Pv i ys σ H→ys.length≤i)
  (hs:∀i ys σ H,i<n→Pv i ys σ H→g (.int (lo+i)) σ H fun σ2 H2=>tt σ2 H2 fun b H3=>if b=true then te σ2 H3 fun v H4=>Pv (i+1) (ys++[v]) σ2 H4 else Pv (i+1) ys σ2 H3)
  (hd:∀ys σ H,Pv n ys σ H→Q ys H):Fm g tt te (MR lo n) Q σ H:=by
 refine⟨fun i m ys σ H=>m=n-i∧i≤n∧Pv i ys σ H,⟨n,by simp,aaI _,h0⟩,?_⟩
 rintro i m ys σ H ⟨rfl,hi,p⟩
 have hl:=hlen i ys σ H p
 by_cases kB:i<n
 ·refine .inr ⟨kB,by omega,Pv (i+1),fun Qj σ' H' p'=>⟨n-(i+1),by omega,rfl,kB,p'⟩,fun x H' y=>?_⟩
  obtain⟨rfl,rfl⟩:=y
  exact hs i ys σ _ kB p
 ·have e:i=n:=by omega
  subst e
  exact .inl ⟨Vx _,by omega,hd ys σ H p⟩
theorem jY{K:Qqy}{a:Addr}{xs:List V}{g:TG}{tt:TT}{te:TE}{Q:List V→Hp→Prop}{σ:St}{H:Hp}(hn:xs.length≤sizeLine)(Pv:Nat→List V→St→Hp→Prop)(h0:Pv 0 [] σ H)(hl:∀i ys σ H,i≤xs.length→Pv i ys σ H→gF K H a xs∧ys.length≤i)
  (hs:∀i x ys σ H,xs[i]?=some x→Pv i ys σ H→g x σ H fun σ2 H2=>tt σ2 H2 fun b H3=>if b=true then te σ2 H3 fun v H4=>Pv (i+1) (ys++[v]) σ2 H4 else Pv (i+1) ys σ2 H3)
  (hd:∀ys σ H,Pv xs.length ys σ H→Q ys H):Fm g tt te (P_ K a) Q σ H:=by
 refine⟨fun i m ys σ H=>m=xs.length-i∧i≤xs.length∧Pv i ys σ H,⟨xs.length,by simp,aaI _,h0⟩,?_⟩
 rintro i m ys σ H ⟨rfl,hi,p⟩
 obtain⟨q,hy⟩:=hl i ys σ H hi p
 by_cases kB:i<xs.length
 ·refine .inr ⟨⟨xs,xs[i],q,by simp[kB]⟩,by omega,Pv (i+1),fun Qj σ' H' p'=>⟨xs.length-(i+1),by omega,rfl,kB,p'⟩,fun x H' y=>?_⟩
  obtain⟨rfl,y⟩:=y
  exact hs i x ys σ _ (y xs q) p
 ·have e:i=xs.length:=by omega
  subst e
  exact .inl ⟨⟨xs,q,Vx _⟩,by omega,hd ys σ H p⟩
end L2
namespace PySem
section
variable{prog:Program}{w:World}{A:Around}{E:Qqq}{s:Shared}
end
end PySem
namespace L2
open PySem PySem.Spec PyProof.Rows
noncomputable def Q8(lo st:Int)(n:Nat):It:=⟨fun i _=>i<n,fun i H x H'=>H'=H∧x=.int (lo+i*st),fun i _=>n≤i⟩
theorem DN{P:Program}{w:World}{K:PySem.W.Frag}{tg:Expr}(it:Addr)(lo st:Int)(n:Nat):Turn P w K tg (Q8 lo st n) [it] it (fun i h=>IsRangeIter h it (lo+(i:Nat)*st) ((n:Int)-(i:Nat)) st) where
 mem:=by simp
 obj:=fun i h st b hb=>by
  have e:b=it:=by simpa using hb
  subst e
  exact⟨_,st,fun v z=>by
   have z':Data.fields _=Data.cell v:=z
   cases z'⟩
 keep:=fun i h h' st k=>k it (by simp) _ st
 item:=by
  intro X hP hw hK hc i c_ s σ H E I hf stt hg
  subst hP hw hK
  obtain⟨f0,f1,f2,f3,f4,f5⟩:=hf it (by simp)
  have W:=Walks.range (prog:=X.prog) (w:=X.w) (I.ok.hd hc) it lo st n
  refine W.item i s _ _ hg stt fun v h' tk hv A4 kk=>?_
  obtain⟨t,rfl⟩:=hv
  have I1:Inv X c_ σ H {s with heap:=h',toks:=tk}:=I.turned (fun b o hb e=>kk b o (by simpa using hb) e) f0 f1 f3 f4 f5
  exact⟨_,rfl,y6 (s:={s with heap:=h',toks:=tk}) (n:="range_iterator") A4 rfl rfl (by decide) ⟨.int (lo+i*st),H,I1,⟨t,rfl⟩,⟨rfl,rfl⟩,A4,fun b hb=>(hf b hb).1⟩⟩
 done:=by
  intro X hP hw hK hc i c_ s σ H E I hf st hg
  subst hP hw hK
  obtain⟨f0,f1,f2,f3,f4,f5⟩:=hf it (by simp)
  exact wpAny_pyNext_range_end (I.ok.hd hc) st (by have:n≤i:=hg;omega) fun h' eb=>⟨rfl,I.turned (t':=s.toks) (fun b o hb e=>eb b o hb e) f0 f1 f3 f4 f5⟩
 self:=fun _ _ _ _ _ st h=>wpAny_pyIter_rangeiter st h
theorem rangeSize_down(a b:Int):Builtin.Range.rangeSize a b (-1)=((a-b).toNat:Int):=by
 unfold Builtin.Range.rangeSize
 simp only [show ¬((-1:Int)>0) by decide,ab2]
 have e:(- -1:Int)=1:=by decide
 rw[e,Int.ediv_one]
 split<;>omega
theorem small_down{a b:Int}(ha:-(2 ^ 61)≤a)(ha':a<2 ^ 61)(hb:-(2 ^ 61)≤b)(hb':b<2 ^ 61):Builtin.Range.small a b (-1)=true:=by
 unfold Builtin.Range.small
 rw[rangeSize_down]
 simp only [Builtin.Range.rangeFitsLong,aaT,abH,abV,abK,show ¬((-1:Int)>0) by decide,ab2]
 omega
section
variable{X:Cx}{tg:Expr}
def Q9(ta:TA):TI:=fun σ H R=>ta σ H fun vs H1=>∃i j:Int,vs=[.int i,.int j,.int (-1)]∧(-(2 ^ 61)≤i∧i<2 ^ 61∧-(2 ^ 61)≤j∧j<2 ^ 61)∧R (Q8 i (-1) (i-j).toNat) H1
theorem wj{a b c:Expr}{ta:TA}{p pos:Pos}(hg:Gl X "range")(hm:X.mg "range"=none)(ha:PA X [a,b,c] ta)(hs:starEach [a,b,c] X.env=[(false,eval a X.env),(false,eval b X.env),(false,eval c X.env)]:=by rfl)
  (Ip:starEach [b,c] X.env=[(false,eval b X.env),(false,eval c X.env)]:=by rfl):PI X tg (.Call (.Name "range" p) [a,b,c] [] pos) (Q9 ta):=by
 intro c_ s σ H R I h
 refine Call_ (oX I hg hm boot_range (aaW (iS (ha pos c_ s σ H _ I h) fun us s1 ⟨vs,H1,I1,r1,q1⟩=>?_) (by rw[hs,Ip]) (by rw[Ip];rfl)))
 obtain⟨i,j,e,⟨q1,q2,q3,q4⟩,q⟩:=q1
 subst e
 cases r1 with
 | cons r rr=>
  cases rr with
  | cons r' rr=>
   cases rr with
   | cons r'' rr=>
    cases rr
    obtain⟨t,rfl⟩:=r
    obtain⟨t',rfl⟩:=r'
    obtain⟨YZ,rfl⟩:=r''
    refine call_range_3 (by decide) ?_ (Or.inl (PyProof.noPylong_small (by decide)))
    refine wpAny_pyIter_range (IsRange.new ..) (small_down q1 q2 q3 q4) ?_
    generalize ho:({cls:=.type "range",data:=.fields #[.int i t,.int j t',.int (-1) YZ]}:Obj)=o
    have I2:Inv X c_ σ H1 {s1 with heap:=s1.heap.push o,toks:=s1.toks}:=I1.kept fun b o e=>YH _ e
    refine⟨(s1.heap.push o).objs.size,[(s1.heap.push o).objs.size],_,_,H1,rfl,I2.kept (t':=s1.toks) fun b o e=>YH _ e,DN _ i (-1) (i-j).toNat,?_,fun b hb=>?_,q⟩
    ·show IsRangeIter _ _ (i+((0:Nat):Int)*(-1)) ((((i-j).toNat:Nat):Int)-((0:Nat):Int)) (-1)
     have e1:i+((0:Nat):Int)*(-1)=i:=by simp
     have e2:(((i-j).toNat:Nat):Int)-((0:Nat):Int)=Builtin.Range.rangeSize i j (-1):=by rw[rangeSize_down];simp
     rw[e1,e2]
     exact aax _ rfl
    ·have e:b=(s1.heap.push o).objs.size:=by simpa using hb
     subst e
     exact I2.yu (Vx _) (I2.iG.fresh (Vx _))
end
theorem ud{lo st:Int}{n:Nat}{g:TG}{tb:TS}{D:Ends}{σ:St}{H:Hp}(Pv:Nat→St→Hp→Prop)(h0:Pv 0 σ H)
  (hs:∀i σ H,i<n→Pv i σ H→g (.int (lo+i*st)) σ H fun σ2 H2=>tb {D with nx:=Pv (i+1),ct:=Pv (i+1),bk:=D.nx} σ2 H2) (hd:∀σ H,Pv n σ H→D.nx σ H) :
  ∃W:Nat→Nat→St→Hp→Prop,(∃m,W 0 m σ H)∧∀i m σ H,W i m σ H→
   ((Q8 lo st n).stop i H∧D.nx σ H)∨((Q8 lo st n).go i H∧∃N:St→Hp→Prop,(∀σ' H',N σ' H'→∃m',m'<m∧W (i+1) m' σ' H')∧∀x H',(Q8 lo st n).IE i H x H'→g x σ H' fun σ2 H2=>tb {D with nx:=N,ct:=N,bk:=D.nx} σ2 H2):=by
 refine⟨fun i m σ H=>m=n-i∧i≤n∧Pv i σ H,⟨n,by simp,aaI _,h0⟩,?_⟩
 rintro i m σ H ⟨rfl,hi,p⟩
 by_cases kB:i<n
 ·refine .inr ⟨kB,Pv (i+1),fun σ' H' p'=>⟨n-(i+1),by omega,rfl,kB,p'⟩,fun x H' y=>?_⟩
  obtain⟨e,y⟩:=y
  subst e y
  exact hs i σ _ kB p
 ·have e:i=n:=by omega
  subst e
  exact .inl ⟨Vx _,hd σ H p⟩
section
variable{X:Cx}
theorem jt:uL X (.builtin "isinstance") (fun xs H Q=>∃x T t b,xs=[x,.ty T]∧v_ X.K H x t∧W.kitOne X.K t (.type T)=some b∧Q (.bl b) H):=by
 intro c_ s σ H xs us Q I r h
 obtain⟨x,T,t,b,rfl,ty,e,q⟩:=h
 obtain⟨u,u',rfl,ru,ru'⟩:=vals2 r
 cases (show u'=Value.type T from ru')
 exact Hh I ru ty e fun tk=>⟨.bl b,H,I.tok tk,rfl,q⟩
theorem zh:∀{xs:List Str} {us:List Value},Vals (xs.map V.str) us→StrsAre us xs
 | [],_,h=>by cases h;exact .nil
 | x::r,_,h=>by
  cases h with
  | cons a t=>
   obtain⟨tk,rfl⟩:=a
   exact .cons x tk (zh t)
def rJoin(K:Qqy):V→List V→Hp→VK→Prop:=fun x vs H Q=>∃z l xs,x=.str z∧vs=[.ref l]∧gF K H l (xs.map V.str)∧(xs.map (·.length)).sum+xs.length*z.length≤16777216∧Q (.str (Txt.join z xs)) H
theorem LF:Vc X "str.join" (rJoin X.K):=by
 intro c_ s σ H x xs v us Q I rx r h
 obtain⟨z,l,ys,rfl,rfl,hl,hz,q⟩:=h
 obtain⟨u,rfl,ru⟩:=vals1 r
 cases ru
 obtain⟨t,rfl⟩:=rx
 obtain⟨gK,rv,p,_⟩:=I.list hl
 exact join_list p.isList (by simpa using zh rv) hz fun t' k=>⟨.str _,H,I.tok k,⟨t',rfl⟩,q⟩
end
inductive pA(K:Qqy)(H:Hp):Nat→V→V→Bool→Prop
 | flat {n x y} (fx:lB x=true) (fy:lB y=true):pA K H n x y (Hj x y)
 | lists {n a c xs ys} {e:Nat→Bool} (h1:gF K H a xs) (h2:gF K H c ys) (hl:xs.length=ys.length) (he:∀(j:Nat) u v,xs[j]?=some u→ys[j]?=some v→pA K H n u v (e j)):pA K H (n+1) (.ref a) (.ref c) ((List.range xs.length).all e)
 | LG {n a c xs ys} (h1:gF K H a xs) (h2:gF K H c ys) (hl:xs.length≠ys.length):pA K H n (.ref a) (.ref c) false
 | q9 {n a c xs ys} {e:Nat→Bool} (h1:rg K H a xs) (h2:rg K H c ys) (he:∀(j:Nat) u v,xs[j]?=some u→ys[j]?=some v→pA K H n u v (e j)):pA K H (n+1) (.ref a) (.ref c) ((List.range (min xs.length ys.length)).all e&&xs.length ==ys.length)
 | wk {n a xs y} (h1:gF K H a xs) (fy:lB y=true):pA K H n (.ref a) y false
 | wo {n a xs y} (h1:gF K H a xs) (fy:lB y=true):pA K H n y (.ref a) false
 | zi {n a xs y} (h1:rg K H a xs) (fy:lB y=true):pA K H n (.ref a) y false
 | zj {n a xs y} (h1:rg K H a xs) (fy:lB y=true):pA K H n y (.ref a) false
 | zl {n a c xs ys} (h1:gF K H a xs) (h2:rg K H c ys):pA K H n (.ref a) (.ref c) false
 | zm {n a c xs ys} (h1:rg K H a xs) (h2:gF K H c ys):pA K H n (.ref a) (.ref c) false
theorem Jb:∀{x:V},lB x=true→Hj x x=true:=by
 intro x h
 cases x<;>simp[lB,Hj] at *
section
variable{X:Cx}{c_:Qqz}{σ:St}{H:Hp}{s:Shared}
theorem Inv.MY{a c:Addr}{xs ys:List V}(I:Inv X c_ σ H s)(h1:gF X.K H a xs)(h2:rg X.K H c ys):a≠c:=by
 obtain⟨gK,_,p,_⟩:=I.list h1
 obtain⟨lU,_,p2,_⟩:=I.tuple h2
 exact SeqAt.ne_of_list_tuple p.isList (show s.heap.IsTuple c lU.toArray from p2)
theorem pA.self{n:Nat}{x y:V}{b:Bool}(I:Inv X c_ σ H s)(h:pA X.K H n x y b):x=y→b=true:=by
 induction h with
 | flat fx fy=>intro e;subst e;exact Jb fx
 | lists h1 h2 hl he ih=>
  intro e
  cases e
  have:=I.pq h1 h2
  subst this
  refine abr.mpr fun j hj=>?_
  have hj:=List.mem_range.mp hj
  exact ih j _ _ (Su hj) (Su hj) rfl
 | LG h1 h2 hl=>intro e;cases e;exact absurd (aa2 List.length (I.pq h1 h2)) hl
 | q9 h1 h2 he ih=>
  intro e
  cases e
  have:=I.G_ h1 h2
  subst this
  rw[aaT]
  refine⟨abr.mpr fun j hj=>?_,by simp⟩
  have hj:=List.mem_range.mp hj
  rw[Nat.min_self] at hj
  exact ih j _ _ (Su hj) (Su hj) rfl
 | wk h1 fy=>intro e;subst e;exact absurd (show false=true from fy) aad
 | wo h1 fy=>intro e;subst e;exact absurd (show false=true from fy) aad
 | zi h1 fy=>intro e;subst e;exact absurd (show false=true from fy) aad
 | zj h1 fy=>intro e;subst e;exact absurd (show false=true from fy) aad
 | zl h1 h2=>intro e;cases e;exact absurd rfl (I.MY h1 h2)
 | zm h1 h2=>intro e;cases e;exact absurd rfl (I.MY h2 h1)
theorem qc{y:V}{v:Value}(r:RelV y v)(f:lB y=true):v=.none∨(∃b,v=.bool b)∨(∃i t,v=.int i t)∨∃x t,v=.str x t:=by
 cases y with
 | jl=>exact .inl r
 | bl b=>exact .inr (.inl ⟨b,r⟩)
 | int i=>obtain⟨t,e⟩:=r;exact .inr (.inr (.inl ⟨i,t,e⟩))
 | str x=>obtain⟨t,e⟩:=r;exact .inr (.inr (.inr ⟨x,t,e⟩))
 | _=>exact absurd (show false=true from f) aad
theorem oz{xs:List V}{gK:List Value}(rv:Vals xs gK){j:Nat}(h:j<gK.toArray.size):∃x,xs[j]?=some x∧RelV x gK.toArray[j]:=by
 have hl:=rv.length
 have hj:j<gK.length:=by simpa using h
 have hx:j<xs.length:=by omega
 obtain⟨u,hu,ru⟩:=rv.get (Su hx)
 refine⟨xs[j],Su hx,?_⟩
 rw[Su hj] at hu
 cases hu
 simpa using ru
theorem pA.at{n:Nat}{x y:V}{b:Bool}(I:Inv X c_ σ H s)(h:pA X.K H n x y b):∀(A:Around)(u v:Value),RelV x u→RelV y v→A.units+n<cLine→SeqAt.EqAt A s u v b:=by
 induction h with
 | flat fx fy=>intro A u v ru rv _;exact IM ru rv fx fy
 | @lists n a c xs ys e h1 h2 hl he ih=>
  intro A u v ru rv hu
  cases ru;cases rv
  by_cases R_:a=c
  ·subst R_
   have hb:=pA.self I (pA.lists h1 h2 hl he) rfl
   rw[hb]
   exact SeqAt.EqAt.same _
  ·obtain⟨gK,r1,p1,_⟩:=I.list h1
   obtain⟨lU,r2,p2,_⟩:=I.list h2
   have l1:=r1.length
   have l2:=r2.length
   refine SeqAt.EqAt.of_refs R_ ?_
   have q:=SeqAt.RcAt.lists (A:=A) (e:=e) p1.isList p2.isList (by simp;omega) (by omega) fun j g1 g2=>by
    obtain⟨x,ex,rx⟩:=oz r1 g1
    obtain⟨y,ey,ry⟩:=oz r2 g2
    exact ih j x y ex ey A.in1 _ _ rx ry (by show A.units+1+n<cLine;omega)
   rw[YM,←l1] at q
   exact q
 | @LG n a c xs ys h1 h2 hl=>
  intro A u v ru rv hu
  cases ru;cases rv
  obtain⟨gK,r1,p1,_⟩:=I.list h1
  obtain⟨lU,r2,p2,_⟩:=I.list h2
  have l1:=r1.length
  have l2:=r2.length
  refine SeqAt.EqAt.of_refs (fun e=>?_) (SeqAt.RcAt.lists_lengths p1.isList p2.isList (by simp;omega) (by omega))
  subst e
  exact hl (aa2 List.length (I.pq h1 h2))
 | @q9 n a c xs ys e h1 h2 he ih=>
  intro A u v ru rv hu
  cases ru;cases rv
  by_cases R_:a=c
  ·subst R_
   have hb:=pA.self I (pA.q9 h1 h2 he) rfl
   rw[hb]
   exact SeqAt.EqAt.same _
  ·obtain⟨gK,r1,p1,_⟩:=I.tuple h1
   obtain⟨lU,r2,p2,_⟩:=I.tuple h2
   have l1:=r1.length
   have l2:=r2.length
   refine SeqAt.EqAt.of_refs R_ ?_
   have q:=SeqAt.RcAt.tuples (A:=A) (e:=e) (show s.heap.IsTuple a gK.toArray from p1) (show s.heap.IsTuple c lU.toArray from p2) (by omega) fun j g1 g2=>by
    obtain⟨x,ex,rx⟩:=oz r1 g1
    obtain⟨y,ey,ry⟩:=oz r2 g2
    exact ih j x y ex ey A.in1 _ _ rx ry (by show A.units+1+n<cLine;omega)
   rw[YM,YM,←l1,←l2] at q
   exact q
 | @wk n a xs y h1 fy=>
  intro A u v ru rv hu
  cases ru
  obtain⟨gK,r1,p1,_⟩:=I.list h1
  rcases qc rv fy with rfl|⟨b,rfl⟩|⟨i,t,rfl⟩|⟨x,t,rfl⟩
  ·exact .list_none p1.isList (by omega)
  ·exact .list_bool b p1.isList (by omega)
  ·exact .list_int i t p1.isList (by omega)
  ·exact .list_str x t p1.isList (by omega)
 | @wo n a xs y h1 fy=>
  intro A u v ru rv hu
  cases rv
  obtain⟨gK,r1,p1,_⟩:=I.list h1
  rcases qc ru fy with rfl|⟨b,rfl⟩|⟨i,t,rfl⟩|⟨x,t,rfl⟩
  ·exact .none_list p1.isList (by omega)
  ·exact .bool_list b p1.isList (by omega)
  ·exact .int_list i t p1.isList (by omega)
  ·exact .str_list x t p1.isList (by omega)
 | @zi n a xs y h1 fy=>
  intro A u v ru rv hu
  cases ru
  obtain⟨gK,r1,p1,_⟩:=I.tuple h1
  have p1:s.heap.IsTuple a gK.toArray:=p1
  rcases qc rv fy with rfl|⟨b,rfl⟩|⟨i,t,rfl⟩|⟨x,t,rfl⟩
  ·exact .tuple_none p1 (by omega)
  ·exact .tuple_bool b p1 (by omega)
  ·exact .tuple_int i t p1 (by omega)
  ·exact .tuple_str x t p1 (by omega)
 | @zj n a xs y h1 fy=>
  intro A u v ru rv hu
  cases rv
  obtain⟨gK,r1,p1,_⟩:=I.tuple h1
  have p1:s.heap.IsTuple a gK.toArray:=p1
  rcases qc ru fy with rfl|⟨b,rfl⟩|⟨i,t,rfl⟩|⟨x,t,rfl⟩
  ·exact .none_tuple p1 (by omega)
  ·exact .bool_tuple b p1 (by omega)
  ·exact .int_tuple i t p1 (by omega)
  ·exact .str_tuple x t p1 (by omega)
 | @zl n a c xs ys h1 h2=>
  intro A u v ru rv hu
  cases ru;cases rv
  obtain⟨gK,r1,p1,_⟩:=I.list h1
  obtain⟨lU,r2,p2,_⟩:=I.tuple h2
  exact .list_tuple p1.isList (show s.heap.IsTuple c lU.toArray from p2) (by omega)
 | @zm n a c xs ys h1 h2=>
  intro A u v ru rv hu
  cases ru;cases rv
  obtain⟨gK,r1,p1,_⟩:=I.tuple h1
  obtain⟨lU,r2,p2,_⟩:=I.list h2
  exact .tuple_list (show s.heap.IsTuple a gK.toArray from p1) p2.isList (by omega)
def Oc(x y:V):Prop:=∃a c,x=.ref a∧y=.ref c
theorem pA.rc{n:Nat}{x y:V}{b:Bool}{A:Around}{u v:Value}(I:Inv X c_ σ H s)(h:pA X.K H n x y b)(sq:Oc x y)(ru:RelV x u)(rv:RelV y v)(hu:A.units+n+1<cLine):SeqAt.RcAt A s u v b∧SeqAt.RcNeAt A s u v (!b):=by
 obtain⟨a0,c0,rfl,rfl⟩:=sq
 cases ru;cases rv
 cases h with
 | flat fx fy=>exact absurd (show false=true from fx) aad
 | @lists n a c xs ys e h1 h2 hl he=>
  obtain⟨gK,r1,p1,_⟩:=I.list h1
  obtain⟨lU,r2,p2,_⟩:=I.list h2
  have l1:=r1.length
  have l2:=r2.length
  have el:∀j (g1:j<gK.toArray.size) (g2:j<lU.toArray.size),SeqAt.EqAt A.in1 s gK.toArray[j] lU.toArray[j] (e j):=fun j g1 g2=>by
   obtain⟨x,ex,rx⟩:=oz r1 g1
   obtain⟨y,ey,ry⟩:=oz r2 g2
   exact(he j x y ex ey).at I A.in1 _ _ rx ry (by show A.units+1+n<cLine;omega)
  have q:=SeqAt.RcAt.lists (A:=A) (e:=e) p1.isList p2.isList (by simp;omega) (by omega) el
  have q':=SeqAt.RcNeAt.lists (A:=A) (e:=e) p1.isList p2.isList (by simp;omega) (by omega) el
  rw[YM,←l1] at q q'
  exact⟨q,q'⟩
 | @LG n a c xs ys h1 h2 hl=>
  obtain⟨gK,r1,p1,_⟩:=I.list h1
  obtain⟨lU,r2,p2,_⟩:=I.list h2
  have l1:=r1.length
  have l2:=r2.length
  exact⟨SeqAt.RcAt.lists_lengths p1.isList p2.isList (by simp;omega) (by omega),SeqAt.RcNeAt.lists_lengths p1.isList p2.isList (by simp;omega) (by omega)⟩
 | @q9 n a c xs ys e h1 h2 he=>
  obtain⟨gK,r1,p1,_⟩:=I.tuple h1
  obtain⟨lU,r2,p2,_⟩:=I.tuple h2
  have l1:=r1.length
  have l2:=r2.length
  have el:∀j (g1:j<gK.toArray.size) (g2:j<lU.toArray.size),SeqAt.EqAt A.in1 s gK.toArray[j] lU.toArray[j] (e j):=fun j g1 g2=>by
   obtain⟨x,ex,rx⟩:=oz r1 g1
   obtain⟨y,ey,ry⟩:=oz r2 g2
   exact(he j x y ex ey).at I A.in1 _ _ rx ry (by show A.units+1+n<cLine;omega)
  have q:=SeqAt.RcAt.tuples (A:=A) (e:=e) (show s.heap.IsTuple a0 gK.toArray from p1) (show s.heap.IsTuple c0 lU.toArray from p2) (by omega) el
  have q':=SeqAt.RcNeAt.tuples (A:=A) (e:=e) (show s.heap.IsTuple a0 gK.toArray from p1) (show s.heap.IsTuple c0 lU.toArray from p2) (by omega) el
  rw[YM,YM,←l1,←l2] at q q'
  exact⟨q,q'⟩
 | wk h1 fy=>exact absurd (show false=true from fy) aad
 | wo h1 fy=>exact absurd (show false=true from fy) aad
 | zi h1 fy=>exact absurd (show false=true from fy) aad
 | zj h1 fy=>exact absurd (show false=true from fy) aad
 | @zl n a c xs ys h1 h2=>
  obtain⟨gK,r1,p1,_⟩:=I.list h1
  obtain⟨lU,r2,p2,_⟩:=I.tuple h2
  exact⟨.list_tuple p1.isList (show s.heap.IsTuple c0 lU.toArray from p2) (by omega),.list_tuple p1.isList (show s.heap.IsTuple c0 lU.toArray from p2) (by omega)⟩
 | @zm n a c xs ys h1 h2=>
  obtain⟨gK,r1,p1,_⟩:=I.tuple h1
  obtain⟨lU,r2,p2,_⟩:=I.list h2
  exact⟨.tuple_list (show s.heap.IsTuple a0 gK.toArray from p1) p2.isList (by omega),.tuple_list (show s.heap.IsTuple a0 gK.toArray from p1) p2.isList (by omega)⟩
end
section
variable{X:Cx}
def Vo(K:Qqy)(n:Nat):R2:=fun x y H Q=>∃b,Oc x y∧pA K H n x y b∧Q (.bl b) H
def Vp(K:Qqy)(n:Nat):R2:=fun x y H Q=>∃b,Oc x y∧pA K H n x y b∧Q (.bl (!b)) H
theorem Jc(n:Nat)(hu:X.A.units+n+1<cLine):xp X (compareOp .Eq) (Vo X.K n):=by
 intro c_ s σ H x y u v Q I rx ry h
 obtain⟨b,sq,e,q⟩:=h
 exact(e.rc I sq rx ry hu).1 X.prog X.w X.xe _ ⟨.bl b,H,I,rfl,q⟩
theorem Od(n:Nat)(hu:X.A.units+n+1<cLine):xp X (compareOp .NotEq) (Vp X.K n):=by
 intro c_ s σ H x y u v Q I rx ry h
 obtain⟨b,sq,e,q⟩:=h
 exact(e.rc I sq rx ry hu).2 X.prog X.w X.xe _ ⟨.bl (!b),H,I,rfl,q⟩
end
theorem pA.LH{K:Qqy}{H:Hp}{n:Nat}{β:Type}[DecidableEq β]{F:β→V→Prop}(hF:∀p q u v,F p u→F q v→pA K H n u v (decide (p=q))){a c:Addr}{xs ys:List V}{ps qs:List β}
  (h1:gF K H a xs) (h2:gF K H c ys) (r1:Paired F ps xs) (r2:Paired F qs ys):pA K H (n+1) (.ref a) (.ref c) (decide (ps=qs)):=by
 have l1:=r1.length
 have l2:=r2.length
 have Sb:∀{ps:List β} {xs:List V},Paired F ps xs→∀(j:Nat) u,xs[j]?=some u→∃p,ps[j]?=some p∧F p u:=by
  intro ps xs r
  induction r with
  | nil=>intro j u h;simp at h
  | cons f t ih=>
   intro j u h
   cases j with
   | zero=>simp at h;subst h;exact⟨_,rfl,f⟩
   | succ j=>simpa using ih j u (by simpa using h)
 by_cases hl:xs.length=ys.length
 ·have e:pA K H (n+1) (.ref a) (.ref c) ((List.range xs.length).all fun j=>decide (ps[j]?=qs[j]?)):=.lists h1 h2 hl fun j u v hu hv=>by
   obtain⟨p,ep,fp⟩:=Sb r1 j u hu
   obtain⟨q,eq,fq⟩:=Sb r2 j v hv
   have:=hF p q u v fp fq
   rw[ep,eq]
   have e:decide (some p=some q)=decide (p=q):=by simp
   rw[e]
   exact this
  have e2:((List.range xs.length).all fun j=>decide (ps[j]?=qs[j]?))=decide (ps=qs):=by
   by_cases h:ps=qs
   ·subst h;simp
   ·rw[aab h,abE]
    intro z
    refine h (List.ext_getElem? fun j=>?_)
    by_cases hj:j<xs.length
    ·simpa using abr.mp z j (List.mem_range.mpr hj)
    ·rw[List.getElem?_eq_none_iff.mpr (by omega),List.getElem?_eq_none_iff.mpr (by omega)]
  rw[←e2]
  exact e
 ·rw[aab fun z=>hl (by rw[←l1,←l2,z])]
  exact .LG h1 h2 hl
theorem pA.Jd{K:Qqy}{H:Hp}{n:Nat}(p q:Str):pA K H n (.str p) (.str q) (decide (p=q)):=by
 have:Hj (.str p) (.str q)=decide (p=q):=(Bool.beq_eq_decide_eq p q)
 rw[←this]
 exact .flat rfl rfl
theorem pA.Oe{K:Qqy}{H:Hp}{n:Nat}(p q:Int):pA K H n (.int p) (.int q) (decide (p=q)):=by
 have:Hj (.int p) (.int q)=decide (p=q):=(Bool.beq_eq_decide_eq p q)
 rw[←this]
 exact .flat rfl rfl
structure Q_(P:Program)(w:World)(outer:List Env)(H H':Hp)(s s':Shared)(e C:Addr):Prop where
 os:s'.os=s.os
 bare:AllBare s'.gens
 un:Un (tH outer) [] H H' s.heap s'.heap
 iG:qO P w H' s'.heap
 fl:∃B t,Heap.FlyingW B outer e (.ref C) (.ref t) s'.heap∧∀b o,s'.heap.get? b=some o→b∉tH outer→((∃u,H' b=some u)∨∃o',s.heap.get? b=some o')→B.get? b=some o
 new:s.heap.get? e=none
 free:H' e=none
def tI(P:Program)(w:World):Gr:=fun outer H s E ev s'=>∃e C H',ev=.ref e∧Q_ P w outer H H' s s' e C∧E (.ref C) none H'
theorem i3.ex{P:Program}{w:World}{H:Hp}{h:Heap}{a:Addr}{o:HO}(x:i3 P w H h a o):∃ob,h.get? a=some ob:=by
 cases o with
 | lst xs=>obtain⟨_,_,_,_,e⟩:=x;exact⟨_,e⟩
 | tup xs=>obtain⟨_,_,_,o,e,_⟩:=x;exact⟨_,e⟩
 | dK kvs=>obtain⟨_,_,_,_,o,_,_,e,_⟩:=x;exact⟨_,e⟩
 | dT kvs=>obtain⟨_,_,_,_,o,_,_,e,_⟩:=x;exact⟨_,e⟩
 | set S n=>obtain⟨o,_,_,_,e,_⟩:=x;exact⟨_,e⟩
 | ins C dx fs=>obtain⟨_,_,_,e,_⟩:=x;exact⟨_,e⟩
 | own y=>obtain⟨_,e⟩:=x;exact⟨_,e⟩
 | xd fs=>obtain⟨_,⟨_,_,_,e,_⟩,_⟩:=x;exact⟨_,e⟩
 | TR lo hi=>obtain⟨_,_,_,e⟩:=x;exact⟨_,e⟩
 | nc ob u=>obtain⟨e,_⟩:=x;exact⟨_,e⟩
 | K4 ps=>exact⟨_,(show h.get? a=some _ from x)⟩
 | met f y=>exact⟨_,(show h.get? a=some _ from x)⟩
 | ext φ=>obtain⟨_,⟨_,e⟩,_⟩:=x;exact⟨_,e⟩
section
variable{X:Cx}{c_:Qqz}{σ:St}{H H':Hp}{s s':Shared}{e C:Addr}{M:Model}{E:Qqq}
structure Bd(X:Cx):Prop where
 stack:X.stack=X.env::X.outer
 frame:X.env.frame=some X.env.locals
 ex:X.ex=[]
theorem Inv.Lj(I:Inv X c_ σ H s){b:Addr}{o:Obj}(h:X.s₀.heap.get? b=some o)(nf:b∉X.fs):b∉tH X.stack:=fun hb=>by
 rcases Wg.mp (I.qa b hb) with z|z
 ·rw[z] at h
  exact absurd (aas (aar h) I.ok.above) (aa4 _)
 ·exact nf z
theorem Je(I:Inv X c_ σ H s)(bd:Bd X)(un:Un (tH X.stack) [] H H' s.heap s'.heap)(hos:s'.os=s.os)(Sd:AllBare s'.gens)(iG:qO X.prog X.w H' s'.heap){B Po:Heap}{t:Addr}
  (hB:∀b o,s'.heap.get? b=some o→b∉tH X.stack→((∃u,H' b=some u)∨∃o',s.heap.get? b=some o')→B.get? b=some o)
  (hF:s'.heap.FunFrames B X.stack) (uH:Heap.FlyingW B X.outer e (.ref C) (.ref t) Po) (up:s'.heap.UpToSlots Po) (new:s.heap.get? e=none) (V5:H' e=none) :
  Q_ X.prog X.w X.outer X.H₀ H' X.s₀ {s' with heap:=Po} e C:=by
 have hex:=bd.ex
 have Se:∀b∈tH X.stack,H' b=none:=fun b hb=>by
  obtain⟨_,o,ho,_⟩:=I.stack.mem hb
  exact un.free b o ho (I.yO b hb) (by simp)
 have Ng:∀b u,H' b=some u→b∉tH X.stack:=fun b u hu hb=>by rw[Se b hb] at hu;cases hu
 have tY:∀b o u,s'.heap.get? b=some o→H' b=some u→Po.get? b=some o:=fun b o u ho hu=>
  uH.1 b o (hB b o ho (Ng b u hu) (.inl ⟨u,hu⟩))
 have q_:∀b,b∉X.ex:=fun b z=>by rw[hex] at z;cases z
 have outS:∀b,b∈tH X.outer→b∈tH X.stack:=fun b hb=>by
  rw[bd.stack];unfold tH;rw[abu,bd.frame];exact aaj _ hb
 refine⟨hos.trans I.os,Sd,⟨fun b o q n hb hx=>?_,fun b o q n hb hx=>?_,fun b o q n hx=>?_,fun b o q hx=>?_,fun b xs q=>un.q9 b xs (I.base.q9 b xs q),fun b o u q=>un.uI b o u (I.base.uI b o u q),fun b ps q=>?_⟩,fun a u ha=>?_,⟨B,t,uH,fun b o hb nb hc=>?_⟩,?_,V5⟩
 ·have q1:=I.base.keep b o q n hb (q_ b)
  have nf:=I.Lj q hb
  exact uH.1 b o (hB b o (un.keep b o q1 (I.base.free b o q n (q_ b)) nf (by simp)) nf (.inr ⟨o,q1⟩))
 ·obtain⟨sl,q1⟩:=I.base.slot b o q n hb (q_ b)
  obtain⟨K5,q2⟩:=un.any q1 (I.base.free b o q n (q_ b)) (by simp)
  obtain⟨_,o',qF,hd⟩:=I.ok.tZ.mem hb
  rw[q] at qF;cases qF
  obtain⟨DO,q3⟩:=up b _ q2 hd
  exact⟨DO,q3⟩
 ·obtain⟨o',q1⟩:=I.base.there b o q (q_ b)
  exact un.free b o' q1 (I.base.free b o q n (q_ b)) (by simp)
 ·obtain⟨o1,q1⟩:=I.base.there b o q (q_ b)
  obtain⟨o2,q2⟩:=un.there b o1 q1 (by simp)
  by_cases hb:b∈tH X.stack
  ·obtain⟨_,o',qF,hd⟩:=hF.mem hb
   rw[q2] at qF;cases qF
   obtain⟨DO,q3⟩:=up b _ q2 hd
   exact⟨_,q3⟩
  ·exact⟨o2,uH.1 b o2 (hB b o2 q2 hb (.inr ⟨o1,q1⟩))⟩
 ·obtain⟨m1,e1⟩:=I.base.yt b ps q
  obtain⟨m2,e2⟩:=un.yt b _ e1
  exact⟨m1++m2,by rw[e2,Array.append_assoc]⟩
 ·refine(iG a u ha).y4 (fun b v hb q=>?_) (fun _ z=>z) fun _ _ z=>z
  rcases hb with z|z
  ·rw[z] at q ⊢;exact tY a v u q ha
  ·exact tY b v _ q z
 ·have all:∀o1,s'.heap.get? b=some o1→b∉tH X.stack→((∃u,H' b=some u)∨∃o',s.heap.get? b=some o')→B.get? b=some o:=fun o1 q1 nf c=>by
   have z:=hB b o1 q1 nf c
   have z2:=uH.1 b o1 z
   have hb:Po.get? b=some o:=hb
   rw[hb] at z2;cases z2
   exact z
  rcases hc with⟨u,hu⟩|⟨o',qF⟩
  ·obtain⟨o1,q1⟩:=(iG b u hu).ex
   exact all o1 q1 (Ng b u hu) (.inl ⟨u,hu⟩)
  ·obtain⟨o1,q1⟩:=I.base.there b o' qF (q_ b)
   obtain⟨o2,q2⟩:=un.there b o1 q1 (by simp)
   exact all o2 q2 (I.Lj qF nb) (.inr ⟨o1,q1⟩)
 ·cases q:X.s₀.heap.get? e with
  | none=>rfl
  | some o=>
   obtain⟨o1,q1⟩:=I.base.there e o q (q_ e)
   rw[new] at q1;cases q1
theorem Jf(I:Inv X c_ σ H s)(bd:Bd X)(F:Q_ X.prog X.w X.stack H H' s s' e C) :
  wpAny M X.A (leaving X.env (.ref e)) (fun _ Ih=>Q_ X.prog X.w X.outer X.H₀ H' X.s₀ Ih e C) E s':=by
 obtain⟨B,t,fl,hB⟩:=F.fl
 have Y0:=fl
 rw[bd.stack] at Y0
 refine wpAny_leaves_onW (by rw[I.ok.frames,bd.stack]) bd.frame Y0 fun Po uH up=>?_
 exact Je I bd F.un F.os F.bare F.iG hB fl.2.2.1 uH up F.new F.free
theorem Fn{vs:List Value}{h':Heap}(I:Inv X c_ σ H s)(bd:Bd X)(hx:Heap.MadeExcOf s.heap h' e (.ref C) vs) :
  wpAny M X.A (leaving X.env (.ref e)) (fun _ Ih=>Q_ X.prog X.w X.outer X.H₀ H X.s₀ Ih e C) E {s with heap:=h'}:=by
 have Iu:∀env∈X.stack,∀b,env.frame=some b→b∈tH X.stack:=fun env he b hb=>ab1.mpr ⟨env,he,hb⟩
 have hF:=W.funFrames_hide I.stack Iu
 have V5:H e=none:=by
  cases q:H e with
  | none=>rfl
  | some u=>
   obtain⟨o,ho⟩:=(I.iG e u q).ex
   rw[hx.new] at ho;cases ho
 have un:Un (tH X.stack) [] H H s.heap h':=Un.kept hx.keeps
 have hB:∀b o,h'.get? b=some o→b∉tH X.stack→((∃u,H b=some u)∨∃o',s.heap.get? b=some o')→(W.hideAll s.heap (tH X.stack)).get? b=some o:=fun b o hb nf c=>by
  have:∃o',s.heap.get? b=some o':=by
   rcases c with⟨u,hu⟩|c
   ·exact(I.iG b u hu).ex
   ·exact c
  obtain⟨o',qF⟩:=this
  have z:=hx.keeps b o' qF
  rw[hb] at z;cases z
  exact W.hideAll_get _ qF nf
 have hF2:h'.FunFrames (W.hideAll s.heap (tH X.stack)) X.stack:=hF.of_keeps fun b o ho _=>⟨o,hx.keeps b o ho,rfl⟩
 refine wpAny_leaves_madeW (base:=W.hideAll s.heap (tH X.stack)) (h:=s.heap) (by rw[I.ok.frames,bd.stack]) bd.frame (fun b o q=>W.of_hideAll _ q) (by rw[←bd.stack];exact hF) hx fun Po t uH tup nt up=>?_
 exact Je (s':={s with heap:=h'}) I bd un rfl I.bare (I.iG.kept hx.keeps) hB hF2 uH up hx.new V5
structure Bx(X:Cx)(E:XK):Prop where
 bd:Bd X
 calm:X.calm=true
 xe:∀ev s',wpAny (model X.prog X.w) X.A (leaving X.env ev) (fun _ Ih=>tI X.prog X.w X.outer X.H₀ X.s₀ E ev Ih) (fun e' Ih=>tI X.prog X.w X.outer X.H₀ X.s₀ E e' Ih) s'→X.xe ev s'
theorem bx{P:Program}{w:World}{K:Qqy}{mg:Qqx}{base:Heap}{N:List Str}{qual:Str}{scope:Scope}{f:Addr}{cd:Value}{A:Around}{outer:List Env}{s:Shared}{H:Hp}{E:XK} :
 Bx (wa (tI P w) P w K mg base N qual scope f cd A outer s H E) E:=⟨⟨rfl,rfl,rfl⟩,rfl,fun _ _ h=>h⟩
theorem MZ{EX:XK}(b:Bx X EX):Passes (tI X.prog X.w) X EX:=fun c_ σ H s ev s' I ⟨e,C,H',he,F,q⟩=>by
 subst he
 exact b.xe _ _ (iS (Jf I b.bd F) fun _ Ih F'=>⟨e,C,H',rfl,F',q⟩)
theorem Jg{P:Program}{w:World}{K:Qqy}{mg:Qqx}{base:Heap}{N:List Str}{qual:Str}{scope:Scope}{f:Addr}{cd:Value}{A:Around}{outer:List Env}{s:Shared}{H:Hp}{E:XK} :
 PassesOwn (model P w) (wa (tI P w) P w K mg base N qual scope f cd A outer s H E).A (wa (tI P w) P w K mg base N qual scope f cd A outer s H E).env (wa (tI P w) P w K mg base N qual scope f cd A outer s H E).xe:=PassesOwn.leaving
structure Exc(K:Qqy)(mg:Qqx)(x:Str)(C:Addr):Prop where
 m:mg x=some (.ref C)
 q:W.excIn K C [.type "ValueError",.type "Exception",.type "BaseException",.type "object"] "ValueError.__new__"=true
def Of(C:Addr)(EX:XK)(ta:TE):TS:=fun _ σ H=>ta σ H fun _ H1=>EX (.ref C) none H1
theorem LI{K:Qqy}{h:Heap}{C:Addr}{Y1:List Value}{newId:String}(X:K.In h)(q:W.excIn K C Y1 newId=true):∃bm N nm q bs hdct sn sub ab col dd k0 k1 k2 k3 k5 mN,h.get? C=some (excClassObj nm q C N bs bm hdct sn sub ab col dd k0 k1 k2 k3 k5 newId)∧h.Ns N mN∧mN "__init__"=none∧OwnTail h Y1 bm:=by
 unfold W.excIn at q
 split at q
 ·rename_i dd cd sl ho
  split at q
  ·rename_i C' bm k0 k1 k2 k3 n k5 hm hs
   simp only [aaT,abK,Bool.not_eq_true'] at q
   obtain⟨⟨⟨⟨⟨rfl,rfl⟩,Sf⟩,ht⟩,iG⟩,Ua⟩:=q
   obtain⟨nm,bs,mro,ns,qn,hd,sn,sub,ab,col,del⟩:=cd
   dsimp only at hm Sf iG Ua
   subst hm Sf
   have Ql:sl=#[k0,k1,k2,k3,some (.builtin n),k5]:=by
    obtain⟨l⟩:=sl
    simp only at hs
    rw[hs]
   subst Ql
   exact⟨bm,ns,nm,qn,bs,hd,sn,sub,ab,col,dd,k0,k1,k2,k3,k5,_,X _ _ ho,.of_isNs (W.isNs_of_in X iG),W.nsMap_none_of_in X iG Ua,W.tail_of_in X ht⟩
  ·cases q
 ·cases q
theorem j5{EX:XK}{x:Str}{a:Expr}{ta:TE}{np kO pos:Pos}(b:Bx X EX)(O:Exc X.K X.mg x C)(hg:Gl X x)(ha:PE X a ta)
  (FZ:(x ==("__debug__":Str))=false:=by decide) (hs:starEach [a] X.env=[(false,eval a X.env)]:=by rfl):PS X (.Raise (some (.Call (.Name x np) [a] [] kO)) none pos) (Of C EX ta):=by
 intro c_ s σ H D I h
 obtain⟨bm,N,nm,q,bs,hdct,sn,sub,ab,col,dd,k0,k1,k2,k3,k5,mN,hC,hN,Ua,T⟩:=LI I.ok.mod.P8 O.q
 refine wpAny_Raise_call_subT (C:=C) (nm:=nm) (q:=q) (N:=N) (bs:=bs) (bm:=bm) (hdct:=hdct) (sn:=sn) (sub:=sub) (ab:=ab) (col:=col) (dd:=dd) (k0:=k0) (k1:=k1) (k2:=k2) (k3:=k3) (k5:=k5)
  PySem.F.excBase_ValueError (mN:=mN) (T.hasType (by decide)) (I.ok.hd b.calm) (by rw[hs];rfl) Ua (uJ I hg O.m ⟨rfl,?_⟩ FZ)
 rw[hs]
 refine abp ?_
 refine abb (iS (ha c_ s σ H _ I h) fun u s1 ⟨y,H1,I1,r1,q1⟩=>abw ?_)
 have hk:=I1.bk
 refine⟨rfl,by show 1≤sizeLine;decide,hk _ _ hC,hN.keeps hk,T.keeps hk,fun h' e hm=>?_⟩
 exact b.xe _ _ (iS (Fn I1 b.bd hm) fun _ Ih F=>⟨e,C,H1,rfl,F,q1⟩)
end
section
variable{P:Program}{w:World}{K:Qqy}{mg:Qqx}{base:Heap}
theorem xw.ok1{x qual:Str}{st:Stmt}{f:Addr}{fd:FuncData}{N ps:List Str}{k:Nat}{sp:Sp}(F:xw K x qual st f fd)(S:gw N ps (gb st))(len:∀vs H Q E,sp vs H Q E→vs.length=ps.length)
  (vP:∀(jm:Value)(A:Around)(outer:List Env)(s:Shared)(H:Hp)(vs:List V)(Q:VK)(E:XK),ko k (A.deeper (envOfC qual (gb st) s.heap.objs.size f jm))→sp vs H Q E→
   ∃t,EW (wa (tI P w) P w K mg base N qual (gb st) f jm A outer s H E) (kT st) t∧t {nx:=fun _ H'=>Q .jl H',rt:=Q} (start N vs) H):ij P w K mg base (tI P w) (k+1) f fd ps sp:=by
 obtain⟨oc,od,kV,doc,pm,an,jm,ct,Iq,rfl,lk,BM⟩:=F.ex
 exact MV lk BM S len fun A outer s H vs Q E hr K7=>vP jm A outer s H vs Q E hr K7
theorem ij.Fo{k:Nat}{f:Addr}{fd:FuncData}{ps:List Str}{sp:Sp}(F:ij P w K mg base (tI P w) k f fd ps sp):ij P w K mg base l5 k f fd ps (fun vs H Q _=>sp vs H Q E0):=
 ⟨fun vs H Q E h=>F.len vs H Q E0 h,fun A outer s H args us vs Q E hr e0 hb hv hs=>codeAny_mono (F.run A outer s H args us vs Q E0 hr e0 hb hv hs) fun r s' h=>by
  cases r with
  | error e=>obtain⟨_,_,_,_,_,z⟩:=h;exact z
  | ok fl=>cases fl<;>exact h⟩
end
section
variable{X:Cx}
def PF(X:Cx)(k:Nat)(es:List Expr)(t:TE):Prop:=
 ∀(acc:Str)(c_:Qqz)(s:Shared)(σ:St)(H:Hp)(Q:VK),acc.length≤k*1048576→Inv X c_ σ H s→t σ H Q→wpAny (model X.prog X.w) X.A (joinParts acc (evalEach es X.env)) (EP X c_ σ Q) X.xe s
def tFn:TE:=fun _ H Q=>∀x,Q (.str x) H
def tFc(te t:TE):TE:=fun σ H Q=>te σ H fun v H1=>∃y,v=.str y∧y.length≤1048576∧t σ H1 Q
theorem nJ{k:Nat}(hk:k≤8:=by decide):PF X k [] tFn:=fun acc c_ s σ H Q hl I h=>
 joinParts_nil (hsz:=by have:sizeLine=16777216:=rfl;omega) ⟨.str acc,H,I.tok _,⟨_,rfl⟩,h acc⟩
theorem iq{k:Nat}{e:Expr}{es:List Expr}{te t:TE}(he:PE X e te)(hr:PF X (k+1) es t)(hk:k≤7:=by decide)(hs:evalEach (e::es) X.env=eval e X.env::evalEach es X.env:=by rfl):PF X k (e::es) (tFc te t):=by
 intro acc c_ s σ H Q hl I h
 rw[hs]
 refine joinParts_cons (iS (he c_ s σ H _ I h) fun u s1 ⟨v,H1,I1,r1,y,ev,hy,q⟩=>?_)
 subst ev
 obtain⟨t',rfl⟩:=r1
 have e1:(acc++y).length=acc.length+y.length:=strLen_append ..
 exact⟨by rw[e1];have:sizeLine=16777216:=rfl;omega,hr (acc++y) c_ s1 σ H1 Q (by rw[e1];omega) I1 q⟩
theorem lC{e1 e2:Expr}{es:List Expr}{t:TE}{pos:Pos}(h:PF X 0 (e1::e2::es) t):PE X (.JoinedStr (e1::e2::es) pos) t:=fun c_ s σ H Q I hq=>by
 rw[arm_eval_JoinedStr]
 exact h Str.empty c_ s σ H Q (by decide) I hq
def tFr(te:TE):TE:=fun σ H Q=>te σ H fun v H1=>∃x,v=.str x∧(reprText x).length≤1048576∧Q (.str (reprText x)) H1
theorem mL{e:Expr}{te:TE}{pos:Pos}(he:PE X e te):PE X (.FormattedValue e 114 none pos) (tFr te):=by
 intro c_ s σ H Q I h
 refine wpAny_FormattedValue_repr (iS (he c_ s σ H _ I h) fun u s1 ⟨v,H1,I1,r1,x,ev,hy,q⟩=>?_)
 subst ev
 obtain⟨t',rfl⟩:=r1
 have hz:(reprText x).length≤sizeLine:=aac hy (by decide)
 refine wpAny_pyReprObj_str (hsz:=hz) ?_
 exact formatField_str (fun YZ tk=>⟨.str (reprText x),H1,I1.tok _,⟨_,rfl⟩,q⟩) hz
end
section
variable{X:Cx}{c_:Qqz}{σ:St}{H:Hp}{s:Shared}{tg:Expr}
def zo(X:Cx)(d:Addr):Prop:=∀o u,X.H₀ d≠some (.nc o u)
theorem Jh{u:HO}(mu:MQ (some u)):(∀xs,u≠.tup xs)∧(∀o v,u≠.nc o v)∧(∀ps,u≠.K4 ps)∧∀x,u≠.own x:=by
 cases u<;>first|exact False.elim mu|exact⟨(fun _ z=>nomatch z),(fun _ _ z=>nomatch z),(fun _ z=>nomatch z),(fun _ z=>nomatch z)⟩
theorem Inv.Og{d:Addr}{u:HO}(I:Inv X c_ σ H s)(hd:H d=some u)(mu:MQ (some u)):zo X d:=fun o v z=>by
 have:=I.base.uI d o v z
 rw[hd] at this
 exact(Jh mu).2.1 o v (aaz this)
theorem Inv.Ji{d:Addr}{u v:HO}(I:Inv X c_ σ H s)(hd:H d=some u)(nt:∀xs,u≠.tup xs)(nb:∀ps,u≠.K4 ps)(no:∀x,u≠.own x)(nf:zo X d)(new:i3 X.prog X.w (upd H d v) s.heap d v):Inv X c_ σ (upd H d v) s:=by
 have ne:∀b,H b=none→b≠d:=fun b e z=>by rw[z,hd] at e;cases e
 refine⟨I.ok,I.os,I.bare,⟨I.base.keep,I.base.slot,fun b o q n hx=>by rw[e_ (ne b (I.base.free b o q n hx))];exact I.base.free b o q n hx,I.base.there,fun b xs q=>?_,fun b o w q=>?_,fun b ps q=>?_⟩,I.loc,I.cell,by rw[e_ (ne _ I.free)];exact I.free,fun x c e=>by rw[e_ (ne _ (I.nF x c e))];exact I.nF x c e,fun p hp=>?_,fun b o e=>?_,I.len⟩
 ·have z:=I.base.q9 b xs q
  have:b≠d:=fun y=>by rw[y,hd] at z;exact nt xs (aaz z)
  rw[e_ this];exact z
 ·have z:=I.base.uI b o w q
  have:b≠d:=fun y=>by rw[y] at q;exact nf o w q
  rw[e_ this];exact z
 ·obtain⟨m,z⟩:=I.base.yt b ps q
  have:b≠d:=fun y=>by rw[y,hd] at z;exact nb _ (aaz z)
  exact⟨m,by rw[e_ this];exact z⟩
 ·obtain⟨e1,e2,e3⟩:=I.pin p hp
  exact⟨e1,by rw[e_ (ne _ e2)];exact e2,e3⟩
 ·by_cases hb:b=d
  ·subst hb;rw[b_] at e;cases e;exact new
  ·rw[e_ hb] at e
   refine(I.iG b o e).y4 (fun _ _ _ q=>q) (fun c q=>?_) fun c xs q=>?_
   ·have:c≠d:=fun y=>by rw[y,hd] at q;exact no _ (aaz q)
    rw[e_ this];exact q
   ·have:c≠d:=fun y=>by rw[y,hd] at q;exact nt _ (aaz q)
    rw[e_ this];exact q
theorem Inv.frozen{d:Addr}{u:HO}(I:Inv X c_ σ H s)(hd:H d=some u)(mu:MQ (some u)):∃o,s.heap.get? d=some o∧Inv X c_ σ (upd H d (.nc o u)) s:=by
 obtain⟨o,ho⟩:=(I.iG d u hd).ex
 obtain⟨m1,m2,m3,m4⟩:=Jh mu
 refine⟨o,ho,I.Ji hd m1 m3 m4 (I.Og hd mu) ⟨ho,?_⟩⟩
 refine(I.iG d u hd).y4 (fun _ _ _ q=>q) (fun c q=>?_) fun c xs q=>?_
 ·have:c≠d:=fun y=>by rw[y,hd] at q;exact m4 _ (aaz q)
  rw[e_ this];exact q
 ·have:c≠d:=fun y=>by rw[y,hd] at q;exact m1 _ (aaz q)
  rw[e_ this];exact q
theorem Inv.wq{d:Addr}{o:Obj}{u:HO}(I:Inv X c_ σ H s)(hd:H d=some (.nc o u))(nf:zo X d):Inv X c_ σ (upd H d u) s:=by
 refine I.Ji hd (fun _ z=>by cases z) (fun _ z=>by cases z) (fun _ z=>by cases z) nf ?_
 obtain⟨_,q⟩:=(show i3 X.prog X.w H s.heap d (.nc o u) from I.iG d _ hd)
 refine q.y4 (fun _ _ _ q=>q) (fun c q=>?_) fun c xs q=>?_
 ·have:c≠d:=fun y=>by rw[y,hd] at q;cases q
  rw[e_ this];exact q
 ·have:c≠d:=fun y=>by rw[y,hd] at q;cases q
  rw[e_ this];exact q
def Ra(X:Cx)(t:TE):TE:=fun σ H Q=>t σ H fun v H2=>∃d o u,H2 d=some (.nc o u)∧zo X d∧Q v (upd H2 d u)
theorem Gy{e:Expr}{t:TE}(h:PE X e t):PE X e (Ra X t):=fun c_ s σ H Q I hq=>
 iS (h c_ s σ H _ I hq) fun v s' ⟨x,H',I',r,d,o,u,hd,nf,q⟩=>⟨x,_,I'.wq hd nf,r,q⟩
noncomputable def Ends.Vr(X:Cx)(D:Ends):Ends where
 nx:=fun σ H2=>∃d o u,H2 d=some (.nc o u)∧zo X d∧D.nx σ (upd H2 d u)
 rt:=fun v H2=>∃d o u,H2 d=some (.nc o u)∧zo X d∧D.rt v (upd H2 d u)
 bk:=fun σ H2=>∃d o u,H2 d=some (.nc o u)∧zo X d∧D.bk σ (upd H2 d u)
 ct:=fun σ H2=>∃d o u,H2 d=some (.nc o u)∧zo X d∧D.ct σ (upd H2 d u)
theorem yR{st:Stmt}{t:TS}(h:PS X st t):PS X st (fun D σ H=>t (D.Vr X) σ H):=fun c_ s σ H D I hq=>iS (h c_ s σ H _ I hq) fun f s' q=>by
 cases f with
 | next=>obtain⟨σ',H',I',d,o,u,hd,nf,q⟩:=q;exact⟨σ',_,I'.wq hd nf,q⟩
 | brk=>obtain⟨σ',H',I',d,o,u,hd,nf,q⟩:=q;exact⟨σ',_,I'.wq hd nf,q⟩
 | cont=>obtain⟨σ',H',I',d,o,u,hd,nf,q⟩:=q;exact⟨σ',_,I'.wq hd nf,q⟩
 | ret v=>obtain⟨x,σ',H',I',r,d,o,u,hd,nf,q⟩:=q;exact⟨x,σ',_,I'.wq hd nf,r,q⟩
theorem B3{H:Hp}{d p:Addr}{u f o:HO}(hd:H d=some u)(hp:p≠d):upd (upd (upd H d f) p o) d u=upd H p o:=by
 funext b
 by_cases h1:b=d
 ·subst h1;rw[b_,e_ (abF hp),hd]
 ·rw[e_ h1]
  by_cases h2:b=p
  ·subst h2;rw[b_,b_]
  ·rw[e_ h2,e_ h2,e_ h1]
theorem wu{H:Hp}{d:Addr}{u f:HO}(hd:H d=some u):upd (upd H d f) d u=H:=by
 rw[Lf]
 funext b
 by_cases h1:b=d
 ·subst h1;rw[b_,hd]
 ·rw[e_ h1]
noncomputable def Qb(d:Addr)(o:Obj)(kvs:List (Key×V)):It:=
 ⟨fun i H=>H d=some (.nc o (.dK kvs))∧i<kvs.length,fun i H x H'=>H'=H∧∃k v,kvs[i]?=some (k,v)∧x=kV k,fun i H=>H d=some (.nc o (.dK kvs))∧kvs.length≤i⟩
theorem Gz{P:Program}{w:World}{k:Key}{u:Value}(h:(ja P w).is k u=true):RelV (kV k) u:=by
 rcases jr (show y0 k u=true from h) with⟨i,t,rfl,rfl⟩|⟨x,t,rfl,rfl⟩
 ·exact⟨t,rfl⟩
 ·exact⟨t,rfl⟩
theorem Jj{P:Program}{w:World}{h:Heap}{d:Addr}{o:Obj}{kvs:List (Key×V)}{es:Array DictEntry}{ep:Nat}(hd:o.data=.dict es ep)(q:i3 P w H h d (.nc o (.dK kvs))):(d ==sysModules)=false∧kvs.length≤sizeLine∧∃vs,KV kvs vs∧h.DictAt (ja P w) d vs ep:=by
 obtain⟨ho,hz,hs,vs,kv,o',Qh,Na,qF,h1,h2,h3⟩:=q
 rw[ho] at qF;cases qF
 rw[hd] at h2;cases h2
 exact⟨hs,hz,vs,kv,o,es,ho,h1,hd,h3⟩
theorem KV.at{κ:Type}{kvs:List (κ×V)}{vs:List (κ×Value)}(r:KV kvs vs):∀{i:Nat} {k:κ} {u:Value},vs[i]?=some (k,u)→∃v,kvs[i]?=some (k,v)∧RelV v u:=by
 induction r with
 | nil=>intro i k u e;simp at e
 | cons f t ih=>
  intro i k u e
  cases i with
  | zero=>
   simp at e
   subst e
   exact⟨_,aa2 some (Prod.ext f.1 rfl),f.2⟩
  | succ i=>
   obtain⟨v,h1,h2⟩:=ih (by simpa using e)
   exact⟨v,by simpa using h1,h2⟩
theorem Hs{P:Program}{w:World}{K:Qqy}(d it:Addr)(o:Obj)(es:Array DictEntry)(ep:Nat)(kvs:List (Key×V))(KI:o.data=.dict es ep):Turn P w K tg (Qb d o kvs) [it] it (fun i h=>h.IsKeyIter it d i kvs.length ep) where
 mem:=by simp
 obj:=fun i h st b hb=>by
  have e:b=it:=by simpa using hb
  subst e
  obtain⟨o,e,c,d⟩:=st
  exact⟨o,e,fun v z=>by rw[d] at z;cases z⟩
 keep:=fun i h h' st k=>st.at fun o e=>k it (by simp) o e
 item:=by
  intro X hP hw hK hc i c_ s σ H E I hf st hg
  subst hP hw hK
  obtain⟨hd,hi⟩:=hg
  obtain⟨_,_,vs,kv,da⟩:=Jj KI (I.iG d _ hd)
  have hl:kvs.length=vs.length:=kv.length
  have A5:i<vs.length:=by omega
  obtain⟨⟨k,u⟩,hx⟩:∃p,vs[i]?=some p:=⟨vs[i],by simp[A5]⟩
  obtain⟨v,hv,_⟩:=kv.at hx
  obtain⟨f0,f1,f2,f3,f4,f5⟩:=hf it (by simp)
  rw[hl] at st
  refine wpAny_pyNext_dict_item st da hx fun key h' Pd A4 sb=>?_
  have I1:Inv X c_ σ H {s with heap:=h'}:=I.turned (t':=s.toks) (fun b o hb e=>(sb.2 b hb).trans e) f0 f1 f3 f4 f5
  obtain⟨o',e,c,dd⟩:=id A4
  exact⟨key,rfl,y6 (s:={s with heap:=h'}) e c dd (by decide) ⟨kV k,H,I1,Gz Pd,⟨rfl,k,v,hv,rfl⟩,by rw[hl];exact A4,fun b hb=>(hf b hb).1⟩⟩
 done:=by
  intro X hP hw hK hc i c_ s σ H E I hf st hg
  subst hP hw hK
  obtain⟨hd,hi⟩:=hg
  obtain⟨_,_,vs,kv,da⟩:=Jj KI (I.iG d _ hd)
  have hl:kvs.length=vs.length:=kv.length
  obtain⟨f0,f1,f2,f3,f4,f5⟩:=hf it (by simp)
  rw[hl] at st
  exact wpAny_pyNext_dict_end (I.ok.hd hc) st da (by simp;omega) fun h' eb=>⟨rfl,I.turned (t':=s.toks) (fun b o hb e=>eb b o hb e) f0 f1 f3 f4 f5⟩
 self:=fun _ _ _ _ _ st h=>wpAny_pyIter_keyiter st h
def Rb(X:Cx)(td:TE):TI:=fun σ H R=>td σ H fun x H1=>∃d kvs,x=.ref d∧H1 d=some (.dK kvs)∧∀o,zo X d→R (Qb d o kvs) (upd H1 d (.nc o (.dK kvs)))
theorem B4{l:Expr}{td:TE}(hl:PE X l td):PI X tg l (Rb X td):=by
 intro c_ s σ H R I h
 refine iS (hl c_ s σ H _ I h) fun v s1 ⟨x,H1,I1,r1,q1⟩=>?_
 obtain⟨d,kvs,e,hd,q⟩:=q1
 subst e
 cases r1
 have nf:=I1.Og hd True.intro
 obtain⟨o,ho,I2⟩:=I1.frozen hd True.intro
 obtain⟨_,hs,vs,kv,o',es,ep,qF,h1,h2,h3⟩:=(show i3 X.prog X.w H1 s1.heap d (.dK kvs) from I1.iG d _ hd)
 rw[ho] at qF;cases qF
 refine wpAny_pyIter_dict (kvs:=vs) (ep:=ep) hs ⟨o,es,ho,h1,h2,h3⟩ ?_
 refine⟨s1.heap.objs.size,[s1.heap.objs.size],_,_,_,rfl,I2.kept (t':=s1.toks) fun b o e=>YH _ e,Hs d _ o es ep kvs h2,⟨_,aax _ rfl,rfl,by rw[kv.length];rfl⟩,fun b hb=>?_,q o nf⟩
 have e:b=s1.heap.objs.size:=by simpa using hb
 subst e
 exact I2.yu (Vx _) (I2.iG.fresh (Vx _))
theorem Jk{d:Addr}{o:Obj}{kvs:List (Key×V)}{g:TG}{tb:TS}{D:Ends}{σ:St}{H:Hp}(Pv:Nat→St→Hp→Prop)(h0:Pv 0 σ H)(hl:∀i σ H,Pv i σ H→H d=some (.nc o (.dK kvs)))
  (hs:∀i k v σ H,kvs[i]?=some (k,v)→Pv i σ H→g (kV k) σ H fun σ2 H2=>tb {D with nx:=Pv (i+1),ct:=Pv (i+1),bk:=D.nx} σ2 H2) (hd:∀σ H,Pv kvs.length σ H→D.nx σ H) :
  ∃W:Nat→Nat→St→Hp→Prop,(∃m,W 0 m σ H)∧∀i m σ H,W i m σ H→
   ((Qb d o kvs).stop i H∧D.nx σ H)∨((Qb d o kvs).go i H∧∃N:St→Hp→Prop,(∀σ' H',N σ' H'→∃m',m'<m∧W (i+1) m' σ' H')∧∀x H',(Qb d o kvs).IE i H x H'→g x σ H' fun σ2 H2=>tb {D with nx:=N,ct:=N,bk:=D.nx} σ2 H2):=by
 refine⟨fun i m σ H=>m=kvs.length-i∧i≤kvs.length∧Pv i σ H,⟨kvs.length,by simp,aaI _,h0⟩,?_⟩
 rintro i m σ H ⟨rfl,hi,p⟩
 have q:=hl i σ H p
 by_cases kB:i<kvs.length
 ·refine .inr ⟨⟨q,kB⟩,Pv (i+1),fun σ' H' p'=>⟨kvs.length-(i+1),by omega,rfl,kB,p'⟩,fun x H' y=>?_⟩
  obtain⟨e,k,v,y,rfl⟩:=y
  subst e
  exact hs i k v σ _ y p
 ·have e:i=kvs.length:=by omega
  subst e
  exact .inl ⟨⟨q,Vx _⟩,hd σ H p⟩
theorem GA{d:Addr}{o:Obj}{kvs:List (Key×V)}{g:TG}{tt:TT}{te:TE}{Q:List V→Hp→Prop}{σ:St}{H:Hp}(hn:kvs.length≤sizeLine)(Pv:Nat→List V→St→Hp→Prop)(h0:Pv 0 [] σ H)(hl:∀i ys σ H,Pv i ys σ H→H d=some (.nc o (.dK kvs))∧ys.length≤i)
  (hs:∀i k v ys σ H,kvs[i]?=some (k,v)→Pv i ys σ H→g (kV k) σ H fun σ2 H2=>tt σ2 H2 fun b H3=>if b=true then te σ2 H3 fun v H4=>Pv (i+1) (ys++[v]) σ2 H4 else Pv (i+1) ys σ2 H3)
  (hd:∀ys σ H,Pv kvs.length ys σ H→Q ys H):Fm g tt te (Qb d o kvs) Q σ H:=by
 refine⟨fun i m ys σ H=>m=kvs.length-i∧i≤kvs.length∧Pv i ys σ H,⟨kvs.length,by simp,aaI _,h0⟩,?_⟩
 rintro i m ys σ H ⟨rfl,hi,p⟩
 obtain⟨q,hy⟩:=hl i ys σ H p
 by_cases kB:i<kvs.length
 ·refine .inr ⟨⟨q,kB⟩,by omega,Pv (i+1),fun Qj σ' H' p'=>⟨kvs.length-(i+1),by omega,rfl,kB,p'⟩,fun x H' y=>?_⟩
  obtain⟨e,k,v,y,rfl⟩:=y
  subst e
  exact hs i k v ys σ _ y p
 ·have e:i=kvs.length:=by omega
  subst e
  exact .inl ⟨⟨q,Vx _⟩,by omega,hd ys σ H p⟩
theorem pB{α β:Type}{F:α→β→Prop}:∀{xs:List α} {ys:List β},xs.length=ys.length→(∀(i:Nat) a b,xs[i]?=some a→ys[i]?=some b→F a b)→Paired F xs ys
 | [],[],_,_=>.nil
 | [],_::_,e,_=>by simp at e
 | _::_,[],e,_=>by simp at e
 | x::xs,y::ys,e,h=>.cons (h 0 x y rfl rfl) (pB (by simpa using e) fun i a b ha hb=>h (i+1) a b (by simpa using ha) (by simpa using hb))
theorem zp(hc:X.calm=true):uL X (.type "list") (fun xs H Q=>∃d kvs,xs=[V.ref d]∧H d=some (.dK kvs)∧∀p,H p=none→Q (.ref p) (upd H p (.lst (kvs.map fun kv=>kV kv.1)))):=by
 intro c_ s σ H xs us Q I r h
 obtain⟨d,kvs,rfl,hd,q⟩:=h
 obtain⟨u,rfl,ru⟩:=vals1 r
 cases (show u=Value.ref d from ru)
 obtain⟨hz,hs,vs,kv,o,es,ep,ho,h1,h2,h3⟩:=(show i3 X.prog X.w H s.heap d (.dK kvs) from I.iG d _ hd)
 have hl:kvs.length=vs.length:=kv.length
 refine W.kdl_call (W.kdl_dict (knd:=ja X.prog X.w) (kvs:=vs) (ep:=ep) hs) (I.ok.hd hc) ⟨o,es,ho,h1,h2,h3⟩ (by omega) fun h' tk acc c hk hS tE=>?_
 have hf:H s.heap.objs.size=none:=I.iG.fresh (Vx _)
 have rel:Vals (kvs.map fun kv=>kV kv.1) acc.toList:=by
  refine pB (by rw[So];have:acc.toList.length=acc.size:=aa5;rw[this,tE.1];exact hl) fun i a b ha hb=>?_
  obtain⟨k,x,Sg,hi⟩:=tE.2 i b (by rw[←aa0];exact hb)
  obtain⟨v,hv,_⟩:=kv.at Sg
  rw[aae,hv] at ha
  cases ha
  exact Gz hi
 refine⟨.ref s.heap.objs.size,upd H s.heap.objs.size (.lst (kvs.map fun kv=>kV kv.1)),I.laid (t':=tk) hk (Vx _) ?_,rfl,q _ hf⟩
 exact⟨by rw[So];exact hz,acc.toList,c,rel,by rw[Array.toArray_toList];exact hS⟩
end
section
variable{X:Cx}{CX:Gr}{k:Nat}{f C:Addr}{fd:FuncData}{ps:List Str}{sp:Sp}{yZ:List V}{ds:List Value}{E:XK}{x m:Str}{p pos apos:Pos}{e o:Expr}{es:List Expr}{ta:TE}{t:TA}{σ₀:St}
end
section
variable{X:Cx}{c_ pn:Qqz}{σ:St}{H:Hp}{s:Shared}{E:Qqq}{e:Addr}
end
section
variable{X:Cx}{c_:Qqz}{σ:St}{H:Hp}{s:Shared}{M:Model}{A:Around}{E:Qqq}
end
section
variable{P:Program}{w:World}{K:Qqy}{mg:Qqx}{base:Heap}
end
section
variable{X:Cx}{k:Nat}{f:Addr}{fd:FuncData}{ps:List Str}{sp:Sp}{x:Str}{p pos:Pos}{e:Expr}{es:List Expr}{t:TA}
end
open PySem PySem.Spec PyProof.Rows PySem.W PySem.Builtin PySem.Builtin.ObjectAttr PySem.Builtin.Getset_descriptor
section
variable{K:Qqy}{e C:Addr}{prog:Program}{w:World}{A:Around}{E:Qqq}{h:Heap}{g:Array GenState}{d:Drawn}{t:Nat}{os:OsState}
end
theorem jI{xs:List V}(h:xs.length≤15:=by simp):xs.length≤sizeLine:=aac h (by decide)
theorem ic{α:Type}{xs:List α}{i:Int}{j:Nat}{v:α}(e:i=(j:Int))(h:xs[j]?=some v):DC xs i=some v:=by subst e;exact Lq h
theorem B5{n:Nat}{i:Int}{j:Nat}(e:i=(j:Int))(h:j<n):IL n i=some j:=by
 subst e
 unfold IL
 rw[aaq (by omega),aaq (by omega)]
 simp
theorem gj.upd{H H':Hp}{p:Addr}{o:HO}(s:gj H H')(h:H p=none):gj H (L2.upd H' p o):=fun b u e=>by rw[e_ (gh e h)];exact s b u e
theorem gj.new{H H':Hp}{p:Addr}{o:HO}(s:gj H H')(h:H' p=none):gj H (L2.upd H' p o):=s.upd (s.free h)
def Vt(t:TS):TS:=fun D σ H=>∃J:St→Hp→Prop,t {D with nx:=J} σ H∧∀σ' H',J σ' H'→D.nx σ' H'
theorem SP.nx{X:Cx}{c_:Qqz}{D:Ends}{J:St→Hp→Prop}{f:Flow}{s:Shared}(hJ:∀σ' H',J σ' H'→D.nx σ' H')(h:SP X c_ {D with nx:=J} f s):SP X c_ D f s:=by
 cases f with
 | next=>obtain⟨σ,H,I,q⟩:=h;exact⟨σ,H,I,hJ _ _ q⟩
 | brk=>exact h
 | cont=>exact h
 | ret u=>exact h
theorem qd{X:Cx}{st:Stmt}{t:TS}(h:PS X st t):PS X st (Vt t):=fun c_ s σ H D I ⟨J,h1,h2⟩=>iS (h c_ s σ H _ I h1) fun f s' q=>SP.nx h2 q
theorem pC{α:Type}{xs:List α}{i:Int}(h0:0≤i)(h:i<(xs.length:Int)):∃v,DC xs i=some v∧xs[i.toNat]?=some v:=by
 have hi:i.toNat<xs.length:=by omega
 exact⟨xs[i.toNat],ic (j:=i.toNat) (by omega) (Su hi),Su hi⟩
theorem Jl{b:Bool}{A B:Prop}(e:b=false)(h:B):if b=true then A else B:=by subst e;exact jz h
theorem Jm{b:Bool}{A B:Prop}(e:b=true)(h:A):if b=true then A else B:=by subst e;exact l6 h
theorem mod_lt(a b:Int)(h:0<b):0≤a%b∧a%b<b:=⟨Int.emod_nonneg a (by omega),Int.emod_lt_of_pos a h⟩
noncomputable abbrev gi(l:List Str):List V:=l.map V.str
theorem i8(xs:List Str)(x:Str):gi xs++[V.str x]=gi (xs++[x]):=by unfold gi;rw[aat];rfl
theorem mF(x y:List Str):gi x++gi y=gi (x++y):=by unfold gi;rw[aat]
theorem oA{l:List Str}{j:Nat}{x:Str}(h:l[j]?=some x):(gi l)[j]?=some (V.str x):=by rw[aae,h];rfl
theorem jM{l:List Str}{j:Nat}{v:V}(h:(gi l)[j]?=some v):∃x,l[j]?=some x∧v=V.str x:=by
 rw[aae] at h
 cases e:l[j]? with
 | none=>rw[e] at h;cases h
 | some x=>rw[e] at h;cases h;exact⟨x,rfl,rfl⟩
theorem Vu{A:Around}{k:Nat}(hr:ko k A){n:Nat}(h:n≤60:=by decide):A.units+n+1<cLine:=by have:=hr.units;omega
theorem il{H:Hp}{a q:Addr}{o u:HO}(hq:H q=none)(h:H a=some o):upd H q u a=some o:=by rw[e_ (gh h hq)];exact h
theorem K5{t0 t1:TS}{D:Ends}{σ:St}{H:Hp}(h:let v1:=t1;ik t0 v1 D σ H):ik t0 t1 D σ H:=h
theorem DO{t0 t1 t2:TS}{D:Ends}{σ:St}{H:Hp}(h:let v2:=t2;let v1:=ik t1 v2;ik t0 v1 D σ H):ik t0 (ik t1 t2) D σ H:=h
theorem M0{t0 t1 t2 t3:TS}{D:Ends}{σ:St}{H:Hp}(h:let v3:=t3;let v2:=ik t2 v3;let v1:=ik t1 v2;ik t0 v1 D σ H):ik t0 (ik t1 (ik t2 t3)) D σ H:=h
theorem Qc{t0 t1 t2 t3 t4:TS}{D:Ends}{σ:St}{H:Hp}(h:let v4:=t4;let v3:=ik t3 v4;let v2:=ik t2 v3;let v1:=ik t1 v2;ik t0 v1 D σ H):ik t0 (ik t1 (ik t2 (ik t3 t4))) D σ H:=h
theorem Rc{t0 t1 t2 t3 t4 t5:TS}{D:Ends}{σ:St}{H:Hp}(h:let v5:=t5;let v4:=ik t4 v5;let v3:=ik t3 v4;let v2:=ik t2 v3;let v1:=ik t1 v2;ik t0 v1 D σ H):ik t0 (ik t1 (ik t2 (ik t3 (ik t4 t5)))) D σ H:=h
theorem YJ{t0 t1 t2 t3 t4 t5 t6:TS}{D:Ends}{σ:St}{H:Hp}(h:let v6:=t6;let v5:=ik t5 v6;let v4:=ik t4 v5;let v3:=ik t3 v4;let v2:=ik t2 v3;let v1:=ik t1 v2;ik t0 v1 D σ H):ik t0 (ik t1 (ik t2 (ik t3 (ik t4 (ik t5 t6))))) D σ H:=h
theorem sl9{t0 t1 t2 t3 t4 t5 t6 t7 t8:TS}{D:Ends}{σ:St}{H:Hp}(h:let v8:=t8;let v7:=ik t7 v8;let v6:=ik t6 v7;let v5:=ik t5 v6;let v4:=ik t4 v5;let v3:=ik t3 v4;let v2:=ik t2 v3;let v1:=ik t1 v2;ik t0 v1 D σ H):ik t0 (ik t1 (ik t2 (ik t3 (ik t4 (ik t5 (ik t6 (ik t7 t8))))))) D σ H:=h
theorem Vv{t0 t1 t2 t3 t4 t5 t6 t7 t8 t9 Y2 Y3:TS}{D:Ends}{σ:St}{H:Hp}(h:let v11:=Y3;let v10:=ik Y2 v11;let v9:=ik t9 v10;let v8:=ik t8 v9;let v7:=ik t7 v8;let v6:=ik t6 v7;let v5:=ik t5 v6;let v4:=ik t4 v5;let v3:=ik t3 v4;let v2:=ik t2 v3;let v1:=ik t1 v2;ik t0 v1 D σ H):ik t0 (ik t1 (ik t2 (ik t3 (ik t4 (ik t5 (ik t6 (ik t7 (ik t8 (ik t9 (ik Y2 Y3)))))))))) D σ H:=h
theorem Ht{w:TI}{g:TG}{b u:TS}{D:Ends}{σ:St}{H:Hp}(h:let v:=b;ik (NT w g v) u D σ H):ik (NT w g b) u D σ H:=h
noncomputable abbrev rr(a:Addr):Option V:=some (.ref a)
noncomputable abbrev rs(x:Str):Option V:=some (.str x)
noncomputable abbrev ri(i:Int):Option V:=some (.int i)
section
variable{X:Cx}{tg:Expr}
noncomputable def Qd(x:Str):It:=⟨fun i _=>i<x.length,fun i H v H'=>H'=H∧∃c,x.cps[i]?=some c∧v=.str ⟨#[c]⟩,fun i _=>i=x.length⟩
theorem Bo{P:Program}{w:World}{K:PySem.W.Frag}(it:Addr)(ty:String)(x:Str)(t:Tok)(R3:["enumerate","zip","dict_itemiterator","dict_reverseitemiterator","odict_iterator","itertools.zip_longest","itertools.pairwise"].contains ty=false)
  (W:∀A:Around,A.handled=none→Walks P w A it [it] [it] x.cps.size (SignAt x) (fun i h=>h.IsStrIter it ty x t i))
  (self:∀(A:Around)(i:Nat)(s:Shared)(Q:Qqq)(E:Qqq),s.heap.IsStrIter it ty x t i→Q (.ref it) s→wpAny (model P w) A (pyIter (.ref it)) Q E s):Turn P w K tg (Qd x) [it] it (fun i h=>h.IsStrIter it ty x t i) where
 mem:=by simp
 obj:=fun i h st b hb=>by
  have e:b=it:=by simpa using hb
  subst e
  obtain⟨o,e,c,d⟩:=st
  exact⟨o,e,fun v z=>by rw[d] at z;cases z⟩
 keep:=fun i h h' ⟨o,ho,r⟩ k=>⟨o,k it (by simp) o ho,r⟩
 item:=by
  intro X hP hw hK hc i c_ s σ H E I hf st hg
  subst hP hw hK
  obtain⟨f0,f1,f2,f3,f4,f5⟩:=hf it (by simp)
  refine(W X.A (I.ok.hd hc)).item i s _ _ hg st fun v h' tk hv A4 kk=>?_
  obtain⟨c,t',BL,rfl⟩:=hv
  have I1:Inv X c_ σ H {s with heap:=h',toks:=tk}:=I.turned (fun b o hb e=>kk b o (by simpa using hb) e) f0 f1 f3 f4 f5
  obtain⟨o',e,cc,dd⟩:=id A4
  exact⟨_,rfl,y6 (s:={s with heap:=h',toks:=tk}) e cc dd R3 ⟨.str ⟨#[c]⟩,H,I1,⟨t',rfl⟩,⟨rfl,c,BL,rfl⟩,A4,fun b hb=>(hf b hb).1⟩⟩
 done:=by
  intro X hP hw hK hc i c_ s σ H E I hf st hg
  subst hP hw hK
  obtain⟨f0,f1,f2,f3,f4,f5⟩:=hf it (by simp)
  have e:i=x.cps.size:=hg
  subst e
  exact(W X.A (I.ok.hd hc)).done s _ _ st fun h' tk kk=>⟨rfl,I.turned (fun b o hb e=>kk b o (by simpa using hb) e) f0 f1 f3 f4 f5⟩
 self:=self
def Rf(te:TE):TI:=fun σ H R=>te σ H fun v H1=>∃x,v=.str x∧R (Qd x) H1
theorem Oh{l:Expr}{te:TE}(hl:PE X l te):PI X tg l (Rf te):=by
 intro c_ s σ H R I h
 refine iS (hl c_ s σ H _ I h) fun v s1 ⟨y,H1,I1,r1,x,e,q⟩=>?_
 subst e
 obtain⟨t,rfl⟩:=r1
 have fin:∀(ty:String)(T:Turn X.prog X.w X.K tg (Qd x) [s1.heap.objs.size] s1.heap.objs.size (fun i h=>h.IsStrIter s1.heap.objs.size ty x t i)),
   U4 X c_ σ tg R (.ref s1.heap.objs.size) {s1 with heap:=s1.heap.push {cls:=.type ty,data:=.fields #[.str x t,.int 0 0]}}:=fun ty T=>by
  refine⟨s1.heap.objs.size,[s1.heap.objs.size],_,_,H1,rfl,I1.kept (t':=s1.toks) fun b o e=>YH _ e,T,⟨_,aax _ rfl,rfl,rfl⟩,fun b hb=>?_,q⟩
  have e:b=s1.heap.objs.size:=by simpa using hb
  subst e
  exact I1.yu (Vx _) (I1.iG.fresh (Vx _))
 cases ha:x.cps.all (·<128)
 ·exact wpAny_pyIter_wide ha (fin _ (Bo _ _ x t (by decide) (fun A hh=>Walks.strWide hh _ x t) fun _ _ _ _ _ st h=>wpAny_pyIter_striter_wide st h))
 ·exact wpAny_pyIter_ascii ha (fin _ (Bo _ _ x t (by decide) (fun A hh=>Walks.strAscii hh _ x t) fun _ _ _ _ _ st h=>wpAny_pyIter_striter_ascii st h))
theorem Jn{x:Str}{g:TG}{tb:TS}{D:Ends}{σ:St}{H:Hp}(Pv:Nat→St→Hp→Prop)(h0:Pv 0 σ H)
  (hs:∀i c σ H,x.cps[i]?=some c→Pv i σ H→g (.str ⟨#[c]⟩) σ H fun σ2 H2=>tb {D with nx:=Pv (i+1),ct:=Pv (i+1),bk:=D.nx} σ2 H2) (hd:∀σ H,Pv x.length σ H→D.nx σ H) :
  ∃W:Nat→Nat→St→Hp→Prop,(∃m,W 0 m σ H)∧∀i m σ H,W i m σ H→
   ((Qd x).stop i H∧D.nx σ H)∨((Qd x).go i H∧∃N:St→Hp→Prop,(∀σ' H',N σ' H'→∃m',m'<m∧W (i+1) m' σ' H')∧∀v H',(Qd x).IE i H v H'→g v σ H' fun σ2 H2=>tb {D with nx:=N,ct:=N,bk:=D.nx} σ2 H2):=by
 refine⟨fun i m σ H=>m=x.length-i∧i≤x.length∧Pv i σ H,⟨x.length,by simp,aaI _,h0⟩,?_⟩
 rintro i m σ H ⟨rfl,hi,p⟩
 by_cases kB:i<x.length
 ·refine .inr ⟨kB,Pv (i+1),fun σ' H' p'=>⟨x.length-(i+1),by omega,rfl,kB,p'⟩,fun v H' y=>?_⟩
  obtain⟨e,c,hc,rfl⟩:=y
  subst e
  exact hs i c σ _ hc p
 ·have e:i=x.length:=by omega
  subst e
  exact .inl ⟨rfl,hd σ H p⟩
def tFi(te:TE):TE:=fun σ H Q=>te σ H fun v H1=>∃i:Int,v=.int i∧i.natAbs.log2<1920∧Q (.str (toString i)) H1
theorem Jo{e:Expr}{te:TE}{pos:Pos}(he:PE X e te):PE X (.FormattedValue e (-1) none pos) (tFi te):=by
 intro c_ s σ H Q I h
 refine FormattedValue_plain (iS (he c_ s σ H _ I h) fun u s1 ⟨v,H1,I1,r1,i,ev,hy,q⟩=>?_)
 subst ev
 obtain⟨t',rfl⟩:=r1
 exact formatField_int_small hy ⟨.str (toString i),H1,I1.tok _,⟨_,rfl⟩,q⟩
end
section
variable{X:Cx}{tg:Expr}
noncomputable def Jp(K:Qqy)(a:Addr)(n:Nat):It:=
 ⟨fun i H=>i<n∧∃xs,gF K H a xs∧xs.length=n,fun i H x H'=>H'=H∧∀xs,gF K H a xs→xs[n-1-i]?=some x,fun i _=>i=n⟩
theorem Jq{P:Program}{w:World}{K:Qqy}(a it:Addr)(n:Nat):Turn P w K tg (Jp K a n) [it] it (fun i h=>h.IsRevIter it a ((n:Int)-1-(i:Nat))) where
 mem:=by simp
 obj:=fun i h st b hb=>by
  have e:b=it:=by simpa using hb
  subst e
  obtain⟨o,e,c,d⟩:=st
  exact⟨o,e,fun v z=>by rw[d] at z;cases z⟩
 keep:=fun i h h' st k=>st.at fun o e=>k it (by simp) o e
 item:=by
  intro X hP hw hK hc i c_ s σ H E I hf st hg
  subst hP hw hK
  obtain⟨hi,xs,hq,hl⟩:=hg
  obtain⟨gK,rv,p,hz⟩:=I.list hq
  have hx:xs[n-1-i]?=some xs[n-1-i]:=Su (by omega)
  obtain⟨u,hu,ru⟩:=rv.get hx
  obtain⟨f0,f1,f2,f3,f4,f5⟩:=hf it (by simp)
  have e1:(n:Int)-1-(i:Nat)=((n-1-i:Nat):Int):=by omega
  rw[e1] at st
  refine wpAny_pyNext_rev_item st p.isList (x:=u) (by simpa using hu) fun h' A4 sb=>?_
  have e2:((n-1-i:Nat):Int)-1=(n:Int)-1-((i+1:Nat):Int):=by omega
  rw[e2] at A4
  have I1:Inv X c_ σ H {s with heap:=h'}:=I.turned (t':=s.toks) (fun b o hb e=>(sb.2 b hb).trans e) f0 f1 f3 f4 f5
  obtain⟨o,e,c,d⟩:=id A4
  exact⟨u,rfl,y6 (s:={s with heap:=h'}) e c d (by decide) ⟨_,H,I1,ru,⟨rfl,fun ys hy=>by rw[I.pq hy hq];exact hx⟩,A4,fun b hb=>(hf b hb).1⟩⟩
 done:=by
  intro X hP hw hK hc i c_ s σ H E I hf st hg
  subst hP hw hK
  have hg:i=n:=hg
  subst hg
  obtain⟨f0,f1,f2,f3,f4,f5⟩:=hf it (by simp)
  have e1:(i:Int)-1-(i:Nat)=-1:=by omega
  rw[e1] at st
  exact wpAny_pyNext_rev_end (I.ok.hd hc) st fun h' eb=>⟨rfl,I.turned (t':=s.toks) (fun b o hb e=>eb b o hb e) f0 f1 f3 f4 f5⟩
 self:=fun _ _ _ _ _ st h=>wpAny_pyIter_revIter st h
def Rg(K:Qqy)(ta:TA):TI:=fun σ H R=>ta σ H fun vs H1=>∃a xs,vs=[.ref a]∧gF K H1 a xs∧R (Jp K a xs.length) H1
theorem LJ{a:Expr}{ta:TA}{p pos:Pos}(hg:Gl X "reversed")(hm:X.mg "reversed"=none)(ha:PA X [a] ta)(hs:starEach [a] X.env=[(false,eval a X.env)]:=by rfl):PI X tg (.Call (.Name "reversed" p) [a] [] pos) (Rg X.K ta):=by
 intro c_ s σ H R I h
 refine Call_ (oX I hg hm boot_reversed (aaW (iS (ha pos c_ s σ H _ I h) fun us s1 ⟨vs,H1,I1,r1,q1⟩=>?_) hs rfl))
 obtain⟨l,xs,rfl,hq,q⟩:=q1
 obtain⟨u,rfl,ru⟩:=vals1 r1
 cases (show u=Value.ref l from ru)
 obtain⟨gK,rv,pp,hz⟩:=I1.list hq
 have hl:=rv.length
 refine call_reversed_list pp.isList ?_
 have I2:Inv X c_ σ H1 {s1 with heap:=s1.heap.push (revObj l ((gK.toArray.size:Int)-1))}:=I1.kept (t':=s1.toks) fun b o e=>YH _ e
 have st:(s1.heap.push (revObj l ((gK.toArray.size:Int)-1))).IsRevIter s1.heap.objs.size l ((xs.length:Int)-1-((0:Nat):Int)):=by
  have e1:(xs.length:Int)-1-((0:Nat):Int)=(gK.toArray.size:Int)-1:=by rw[hl];simp
  rw[e1]
  exact⟨_,aax _ rfl,rfl,rfl⟩
 refine wpAny_pyIter_revIter st ?_
 refine⟨s1.heap.objs.size,[s1.heap.objs.size],_,_,H1,rfl,I2,Jq l _ xs.length,st,fun b hb=>?_,q⟩
 have e:b=s1.heap.objs.size:=by simpa using hb
 subst e
 exact I1.yu (Vx _) (I1.iG.fresh (Vx _))
theorem LK{K:PySem.W.Frag}{a:Addr}{xs:List V}{g:TG}{tb:TS}{D:Ends}{σ:St}{H:Hp}(Pv:Nat→St→Hp→Prop)(h0:Pv 0 σ H)(hl:∀i σ H,i≤xs.length→Pv i σ H→gF K H a xs)
  (hs:∀i x σ H,xs.reverse[i]?=some x→Pv i σ H→g x σ H fun σ2 H2=>tb {D with nx:=Pv (i+1),ct:=Pv (i+1),bk:=D.nx} σ2 H2) (hd:∀σ H,Pv xs.length σ H→D.nx σ H) :
  ∃W:Nat→Nat→St→Hp→Prop,(∃m,W 0 m σ H)∧∀i m σ H,W i m σ H→
   ((Jp K a xs.length).stop i H∧D.nx σ H)∨((Jp K a xs.length).go i H∧∃N:St→Hp→Prop,(∀σ' H',N σ' H'→∃m',m'<m∧W (i+1) m' σ' H')∧∀x H',(Jp K a xs.length).IE i H x H'→g x σ H' fun σ2 H2=>tb {D with nx:=N,ct:=N,bk:=D.nx} σ2 H2):=by
 refine⟨fun i m σ H=>m=xs.length-i∧i≤xs.length∧Pv i σ H,⟨xs.length,by simp,aaI _,h0⟩,?_⟩
 rintro i m σ H ⟨rfl,hi,p⟩
 have q:=hl i σ H hi p
 by_cases kB:i<xs.length
 ·refine .inr ⟨⟨kB,xs,q,rfl⟩,Pv (i+1),fun σ' H' p'=>⟨xs.length-(i+1),by omega,rfl,kB,p'⟩,fun x H' y=>?_⟩
  obtain⟨e,y⟩:=y
  subst e
  refine hs i x σ _ ?_ p
  rw[List.getElem?_reverse kB]
  exact y xs q
 ·have e:i=xs.length:=by omega
  subst e
  exact .inl ⟨rfl,hd σ H p⟩
theorem Jr{prog:Program}{w:World}{A:Around}{E:Qqq}{s:Shared}{r:Addr}{Q:Bool→Shared→Prop}(hT:s.TypeIs (.ref r) "list_reverseiterator")(h:Q false s):wpAny (model prog w) A (Builtin.List.listLengthHint (.ref r)) Q E s:=by
 have f1:typeLookup (.type "list_reverseiterator") "__len__"=pure none:=by rw[typeLookup_type,builtinLookup_eq_fast];kernel_rfl
 have f2:typeLookup (.type "list_reverseiterator") "__length_hint__"=pure (some (.builtin "list_reverseiterator.__length_hint__")):=by rw[typeLookup_type,builtinLookup_eq_fast];kernel_rfl
 unfold Builtin.List.listLengthHint
 refine Ss (ab9 hT f1 ?_)
 wp_delta
 refine ab_ (fun G3=>absurd G3 (by decide)) (fun _=>?_)
 refine ab_ (fun G3=>absurd G3 (by decide)) (fun _=>?_)
 refine Ss (ab9 hT f2 ?_)
 generalize Ub:("list_reverseiterator.__length_hint__":String)=id0
 wp_delta
 rw[show splitId id0=some ("list_reverseiterator","__length_hint__") from by subst Ub;decide+kernel]
 subst Ub
 refine Ss (wpAny_isInstance (T:="list_reverseiterator") (b:=true) hT (by rw[isSubtype_type];kernel_rfl) ?_)
 refine ab_ (fun G3=>absurd G3 (by decide)) (fun _=>?_)
 refine ab_ (fun _=>?_) (fun G3=>absurd (by decide+kernel) G3)
 refine ab_ (fun G3=>absurd G3 (by decide)) (fun _=>?_)
 exact aai h
theorem Hu{prog:Program}{w:World}{A:Around}{E:Qqq}{s:Shared}{T:String}{r d:Addr}{n:Nat}{P:Nat→Value→Prop}{St:Nat→Heap→Prop}{Q:Qqq}
  (W:Walks prog w A.in1.in1 r [r,d] [r] n P St) (hT:∀h:Heap,St 0 h→∃o,h.get? r=some o∧o.cls=.type T) (hl:(Value.type T ==Value.type "list")=false) (ht:(Value.type T ==Value.type "tuple")=false)
  (hint:∀(A:Around)(E:Qqq)(s:Shared)(Q:Bool→Shared→Prop),St 0 s.heap→Q false s→wpAny (model prog w) A (Builtin.List.listLengthHint (.ref r)) Q E s)
  (self:∀(A:Around)(E:Qqq)(s:Shared)(Q:Qqq),St 0 s.heap→Q (.ref r) s→wpAny (model prog w) A (pyIter (.ref r)) Q E s)
  (hd:d<s.heap.objs.size) (st:St 0 s.heap) (hn:n≤sizeLine)
  (hQ:∀h' tk MB c',(∀b o,b≠r→s.heap.get? b=some o→h'.get? b=some o)→h'.get? s.heap.objs.size=some {cls:=.type "list",dict:=none,data:=.seq MB c',slots:=#[]}→ItemsOf P MB n→Q (.ref s.heap.objs.size) {s with heap:=h',toks:=tk}) :
  wpAny (model prog w) A (call (.type "list") [.ref r]) Q E s:=by
 obtain⟨or,hor,hcr⟩:=hT _ st
 have E2:r<s.heap.objs.size:=aar hor
 refine callType_codes (Q₁:=fun obj s₁=>obj=.ref s.heap.objs.size∧s₁={s with heap:=s.heap.push {cls:=.type "list",data:=.seq #[]}}) PySem.F.called_list (PySem.F.typeCall_list_1 _) PySem.F.entry_list_init
  (code_list_new _ ⟨rfl,rfl⟩) fun obj s₁ h₁=>?_
 obtain⟨rfl,rfl⟩:=h₁
 have hS:(s.heap.push {cls:=.type "list",data:=.seq #[]}).get? s.heap.objs.size=some {cls:=.type "list",data:=.seq #[]}:=aax _ rfl
 have V6:s.heap.objs.size≠r:=ab5 E2
 have Y4:s.heap.objs.size≠d:=ab5 hd
 refine⟨⟨_,hS,rfl⟩,PySem.F.args_list_init_2 _ _,?_⟩
 show wpAny _ _ (do let old ←Builtin.List.listItems (.ref s.heap.objs.size);Builtin.List.listUpdate (.ref s.heap.objs.size) (fun _=>#[]);letGo old.toList.reverse;Builtin.List.listExtendWith (.ref s.heap.objs.size) (.ref r) .none) _ _ _
 refine Ss ?_
 unfold Builtin.List.listItems
 refine Ss (wpAny_seqItems hS rfl (aai ?_))
 show wpAny _ _ (updateSeq s.heap.objs.size (fun _=>#[]) >>= fun _=>letGo (#[]:Array Value).toList.reverse >>= fun _=>Builtin.List.listExtendWith (.ref s.heap.objs.size) (.ref r) .none) _ _ _
 refine Ss (wpAny_updateSeq hS rfl ?_)
 have Uc:=aa7 (Obj.mapSeq (fun _=>(#[]:Array Value))) hS rfl
 have Ud:∀b o,s.heap.get? b=some o→((s.heap.push {cls:=.type "list",data:=.seq #[]}).update s.heap.objs.size (Obj.mapSeq (fun _=>(#[]:Array Value)))).get? b=some o:=
  fun b o e=>(abJ _ _ (ab5 (aar e))).trans (YH _ e)
 refine Ss (wpAny_letGo ?_)
 generalize (s.heap.push {cls:=.type "list",data:=.seq #[]}).update s.heap.objs.size (Obj.mapSeq (fun _=>(#[]:Array Value)))=h2 at Uc Ud
 have Af:St 0 h2:=W.frame 0 _ _ st fun b _ o e=>Ud b o e
 have key:∀(h:Heap)(c₁ tk:Nat),St 0 h→(∀b o,s.heap.get? b=some o→h.get? b=some o)→
   h.get? s.heap.objs.size=some {cls:=.type "list",data:=.seq #[] c₁}→codeAny (model prog w) A.in1 (.builtin "list.extend.loop" ⟨[.ref s.heap.objs.size,.ref r,.none],[]⟩)
    (fun r s'=>match r with|.ok (.ret v)=>v=.none∧Q (.ref s.heap.objs.size) s'|.ok _=>False|.error e=>E e s') {s with heap:=h,toks:=tk}:=by
  intro h c₁ tk xc hk hS₁
  refine codeAny_extend_loopS W.toS hn s.heap.objs.size (by simp only [Wg,abL,or_false,not_or];exact⟨V6,Y4⟩) .none n 0 _ #[] c₁ rfl (aaI _) xc hS₁ (ItemsOf.nil _) fun s' MB c' hm hS' tE=>?_
  rw[Moved.eq_with hm]
  refine⟨rfl,hQ s'.heap s'.toks MB c' (fun b o hb e=>hm.heap b o (fun A6=>?_) (hk b o e)) hS' tE⟩
  rcases Wg.mp A6 with e'|A6
  ·exact absurd (aar e) (by rw[e'];exact aa4 _)
  ·exact hb (List.mem_singleton.mp A6)
 unfold Builtin.List.listExtendWith
 refine Ss (wpAny_typeOf (T:=T) (hT _ Af) ?_)
 have h1:Builtin.List.listSameRef (.ref s.heap.objs.size) (.ref r)=false:=by simp[Builtin.List.listSameRef,V6]
 simp only [h1,hl,ht,Bool.or_false,aaO,ab2]
 refine Ss (self _ _ _ _ Af ?_)
 refine Ss (abM (hint _ _ _ _ Af ?_))
 refine ab_ (fun _=>?_) (fun _=>aai ⟨plainId_quiet PySem.F.plain_extend_loop _,key _ _ _ Af Ud Uc⟩)
 refine Ss (wpAny_rule ?_)
 refine Ss ?_
 show wpAny _ _ (updateSeq s.heap.objs.size (·.push .none) >>= fun _=>updateSeq s.heap.objs.size (·.pop)) _ _ _
 refine Ss (wpAny_updateSeq Uc rfl ?_)
 have Y5:=aa7 (Obj.mapSeq (·.push Value.none)) Uc rfl
 refine wpAny_updateSeq (hz:=by seq_fits) Y5 rfl ?_
 have hS₄:=aa7 (Obj.mapSeq (·.pop)) Y5 rfl
 have Sh:∀b o,b≠s.heap.objs.size→h2.get? b=some o→((h2.update s.heap.objs.size (Obj.mapSeq (·.push Value.none))).update s.heap.objs.size (Obj.mapSeq (·.pop))).get? b=some o:=fun b o hb e=>
  (abJ _ _ (abF hb)).trans ((abJ _ _ (abF hb)).trans e)
 refine aai ⟨plainId_quiet PySem.F.plain_extend_loop _,key _ _ _ (W.frame 0 _ _ Af fun b hb o e=>Sh b o (fun z=>?_) e) (fun b o e=>Sh b o (aaN (aar e)) (Ud b o e)) hS₄⟩
 subst z
 simp only [Wg,abL,or_false] at hb
 rcases hb with z|z
 ·exact V6 z
 ·exact Y4 z
def Js(K:Qqy)(ta:TA):TE:=fun σ H Q=>ta σ H fun vs H1=>∃a xs,vs=[.ref a]∧gF K H1 a xs∧∀p,H1 p=none→Q (.ref p) (upd H1 p (.lst xs.reverse))
theorem Fp{a:Expr}{ta:TA}{p1 p2 V7 MC:Pos}(hc:X.calm=true)(Qm:Gl X "list")(V9:X.mg "list"=none)(hg:Gl X "reversed")(hm:X.mg "reversed"=none)(ha:PA X [a] ta)(hs:starEach [a] X.env=[(false,eval a X.env)]:=by rfl)
  (V_:starEach [.Call (.Name "reversed" p2) [a] [] MC] X.env=[(false,eval (.Call (.Name "reversed" p2) [a] [] MC) X.env)]:=by rfl):PE X (.Call (.Name "list" p1) [.Call (.Name "reversed" p2) [a] [] MC] [] V7) (Js X.K ta):=by
 intro c_ s σ H Q I h
 refine Call_ (oX I Qm V9 boot_list (aaW ?_ V_ rfl))
 rw[V_]
 refine abb ?_
 refine Call_ (oX I hg hm boot_reversed (aaW (iS (ha MC c_ s σ H _ I h) fun us s1 ⟨vs,H1,I1,r1,q1⟩=>?_) hs rfl))
 obtain⟨l,xs,rfl,hq,q⟩:=q1
 obtain⟨u,rfl,ru⟩:=vals1 r1
 cases (show u=Value.ref l from ru)
 obtain⟨gK,rv,pp,hz⟩:=I1.list hq
 have hl:=rv.length
 refine call_reversed_list pp.isList (abw ?_)
 have kB:l<s1.heap.objs.size:=let ⟨o,ho,_⟩:=pp.isList;aar ho
 have hL:(s1.heap.push (revObj l ((gK.toArray.size:Int)-1))).IsList l gK.toArray:=pp.isList.at fun o e=>YH _ e
 refine Hu (s:={s1 with heap:=s1.heap.push (revObj l ((gK.toArray.size:Int)-1))}) (T:="list_reverseiterator") (d:=l) (n:=gK.toArray.size) (Walks.listRev (prog:=X.prog) (w:=X.w) (A:=X.A.in1.in1) (show X.A.in1.in1.handled=none from I.ok.hd hc) s1.heap.objs.size l (aaN kB) gK.toArray) (fun h ⟨_,⟨o,ho,BL,_⟩,_⟩=>⟨o,ho,BL⟩) (by decide) (by decide)
  (fun A E s Q ⟨_,⟨o,ho,BL,_⟩,_⟩ hq=>Jr ⟨o,ho,BL⟩ hq) (fun A E s Q ⟨_,x,_⟩ hq=>wpAny_pyIter_revIter x hq) (aas kB (by show s1.heap.objs.size≤(s1.heap.push _).objs.size;rw[abD];exact Nat.le_succ _))
  ⟨aaI _,by
   have e:(gK.toArray.size:Int)-1-((0:Nat):Int)=(gK.toArray.size:Int)-1:=by omega
   rw[e];exact⟨_,aax _ rfl,rfl,rfl⟩,hL⟩ (by rw[YM,←hl];exact hz) fun h' tk acc c hk hS tE=>?_
 have hf:H1 (s1.heap.push (revObj l ((gK.toArray.size:Int)-1))).objs.size=none:=I1.iG.fresh (by rw[abD];omega)
 have rel:Vals xs.reverse acc.toList:=by
  have hsz:acc.toList.length=acc.size:=aa5
  refine pB (by rw[abi,hsz,tE.1,YM,hl]) fun i x y hx hy=>?_
  have hi:i<xs.length:=by have:=(List.getElem?_eq_some_iff.mp hx).1;rwa [abi] at this
  have z:=tE.2 i y (by rw[←aa0];exact hy)
  rw[List.getElem?_reverse hi] at hx
  obtain⟨w,hw,Ag⟩:=rv.get hx
  rw[YM,←hl] at z
  have z2:gK[xs.length-1-i]?=some y:=by simpa using z
  rw[hw] at z2
  cases z2
  exact Ag
 refine⟨.ref _,upd H1 _ (.lst xs.reverse),I1.laid (t':=tk) (h':=h') (fun b o e=>hk b o (aaN (aar e)) (YH _ e)) (by rw[abD];omega) ?_,rfl,q _ hf⟩
 exact⟨by rw[abi];exact hz,acc.toList,c,rel,by rw[Array.toArray_toList];exact hS⟩
end
open PySem PySem.Builtin.Str
theorem subAt_one(s:Str)(c i:Nat):subAt s ⟨#[c]⟩ i=decide (s.cps[i]?=some c):=by
 unfold subAt
 show(s.cps.extract i (i+1) ==#[c])=_
 rw[abl]
 simp only [abK,abV]
 by_cases h:i<s.cps.size
 ·have e:s.cps.extract i (i+1)=#[s.cps[i]]:=by
   apply Array.ext
   ·simp;omega
   ·intro j h1 h2
    simp at h2
    subst h2
    simp
  rw[e,aaV h]
  constructor
  ·intro z;simpa using z
  ·intro z;simpa using z
 ·have e:s.cps.extract i (i+1)=#[]:=by
   apply Array.ext
   ·simp;omega
   ·intro j h1 h2;simp at h2
  rw[e,Array.getElem?_eq_none (by omega)]
  simp
noncomputable def oB(s sub:Str)(hi:Nat)(p:Array Nat×Nat)(i:Nat):Array Nat×Nat:=
 if(decide (p.1.size<1)&&decide (p.2≤i)&&decide (i+sub.length≤hi)&&subAt s sub i)=true then(p.1.push i,i+sub.length) else p
theorem Jt(s sub:Str)(lo hi:Nat):occurrences s sub lo hi 1=((List.range' lo (hi+1-lo)).foldl (oB s sub hi) (#[],lo)).1.toList:=by
 unfold occurrences
 simp only [Std.Legacy.Range.forIn_eq_forIn_range',Std.Legacy.Range.size]
 rw[show(hi+1-lo+1-1)/1=hi+1-lo by omega]
 generalize List.range' lo (hi+1-lo)=l
 generalize ((#[],lo):Array Nat×Nat)=p
 show Id.run (forIn l p _ >>= _)=_
 have go:∀(l:List Nat)(p:Array Nat×Nat),(forIn l p (fun(i:Nat) (q:Array Nat×Nat)=>(if(decide (q.fst.size<1)&&decide (q.snd≤i)&&decide (i+sub.length≤hi)&&subAt s sub i)=true then
   pure (ForInStep.yield (q.fst.push i,i+sub.length)) else pure (ForInStep.yield (q.fst,q.snd)):Id (ForInStep (Array Nat×Nat)))):Id (Array Nat×Nat))=l.foldl (oB s sub hi) p:=by
  intro l
  induction l with
  | nil=>intro p;rfl
  | cons a r ih=>
   intro p
   rw[List.forIn_cons,List.foldl_cons]
   unfold oB
   split
   ·exact ih _
   ·exact ih _
 rw[go]
 rfl
theorem LL(s:Str)(c:Nat):(occurrences s ⟨#[c]⟩ 0 s.length 1).isEmpty=decide (c∉s.cps.toList):=by
 rw[Jt]
 have inv:∀(l:List Nat)(p:Array Nat×Nat),(p.1=#[]→p.2=0)→((l.foldl (oB s ⟨#[c]⟩ s.length) p).1=#[]↔p.1=#[]∧∀i∈l,¬(i+1≤s.length∧s.cps[i]?=some c)):=by
  intro l
  induction l with
  | nil=>intro p _;simp
  | cons a r ih=>
   intro p hp
   rw[List.foldl_cons]
   by_cases hc:(decide (p.1.size<1)&&decide (p.2≤a)&&decide (a+(⟨#[c]⟩:Str).length≤s.length)&&subAt s ⟨#[c]⟩ a)=true
   ·have e:oB s ⟨#[c]⟩ s.length p a=(p.1.push a,a+(⟨#[c]⟩:Str).length):=aaq hc
    rw[e,ih _ (fun z=>by simp at z)]
    simp only [aaT,abV,subAt_one] at hc
    constructor
    ·rintro⟨z,_⟩;simp at z
    ·rintro⟨z,h⟩
     exact absurd ⟨hc.1.2,hc.2⟩ (h a aav)
   ·have e:oB s ⟨#[c]⟩ s.length p a=p:=aal hc
    rw[e,ih _ hp]
    constructor
    ·rintro⟨z,h⟩
     refine⟨z,fun i hi=>?_⟩
     rcases Wg.mp hi with rfl|hi
     ·intro ⟨h1,h2⟩
      apply hc
      simp only [aaT,abV,subAt_one]
      exact⟨⟨⟨by rw[z];decide,by rw[hp z];exact aaI _⟩,h1⟩,h2⟩
     ·exact h i hi
    ·rintro⟨z,h⟩
     exact⟨z,fun i hi=>h i (aaj _ hi)⟩
 have h:=inv (List.range' 0 (s.length+1-0)) (#[],0) (fun _=>rfl)
 rw[abl,abV,List.isEmpty_iff]
 rw[show(List.foldl (oB s ⟨#[c]⟩ s.length) (#[],0) (List.range' 0 (s.length+1-0))).1.toList=[]↔(List.foldl (oB s ⟨#[c]⟩ s.length) (#[],0) (List.range' 0 (s.length+1-0))).1=#[] from ⟨fun z=>by simpa using z,fun z=>by rw[z]⟩,h]
 constructor
 ·rintro⟨_,h⟩ hm
  obtain⟨i,hi,e⟩:=List.mem_iff_getElem.mp hm
  have A5:i<s.cps.size:=by simpa using hi
  refine h i (by rw[List.mem_range'_1];show 0≤i∧i<0+(s.cps.size+1-0);omega) ⟨A5,?_⟩
  rw[aaV A5]
  simpa using e
 ·intro hn
  refine⟨rfl,fun i _ ⟨_,h2⟩=>hn ?_⟩
  exact Vs (i:=i) (by rw[aa0];exact h2)
section
variable{prog:Program}{w:World}{A:Around}{E:Qqq}{s:Shared}
end
section
variable{X:Cx}
end
def wx(h:Heap)(d:Addr)(es:Array DictEntry)(ep:Nat):Prop:=∃o,h.get? d=some o∧o.ExactDict∧o.data=.dict es ep
section
variable{P:Program}{w:World}{A:Around}{E:Qqq}{s:Shared}{d it:Addr}{es:Array DictEntry}{ep i:Nat}
theorem wx.ty(x:wx s.heap d es ep):s.TypeIs (.ref d) "dict":=by obtain⟨o,e,c,_⟩:=x;exact⟨o,e,c.1⟩
theorem wx.at{h h':Heap}(x:wx h d es ep)(k:∀o,h.get? d=some o→h'.get? d=some o):wx h' d es ep:=by obtain⟨o,e,r⟩:=x;exact⟨o,k o e,r⟩
theorem DP{Q:Qqq}(lo:(d ==sysModules)=false)(x:wx s.heap d es ep)
  (k:Q (.ref s.heap.objs.size) {s with heap:=s.heap.push {cls:=.type "dict_keyiterator",data:=.fields #[.ref d,.int 0 0,.int es.size 0,.int ep 0]}}):wpAny (model P w) A (pyIter (.ref d)) Q E s:=by
 have ty:=x.ty
 obtain⟨o,e,c,dt⟩:=x
 refine wpAny_pyIter_slot ty F.slot_dict_iter (ab0 F.slot_dict_iter ty F.entry_dict_iter ?z (F.args_dict_iter_1 _))
 case z=>
  unfold Builtin.«dict.__iter__» Builtin.Dict.dictSlotNone
  refine Ss (Ss (wpAny_notOrdered_dict ty (show wpAny _ _ (pure (Value.ref d)) _ _ s from aai ?z)))
  case z=>
   show wpAny _ _ (Builtin.Dict.showsAll d >>= _) _ _ s
   unfold Builtin.Dict.showsAll
   rw[lo,aal (fun z=>by cases z)]
   refine Ss (aai (Ss (aa_ e dt (Ss (wpAny_dictEpoch e dt (Ss (wpAny_newObj_type (aai ?z))))))))
   case z=>exact⟨_,rfl,"dict_keyiterator",_,⟨_,aax _ rfl,rfl⟩,abk.lookup,by simpa[rawInt] using k⟩
theorem DQ{Q:Option Value→Shared→Prop}{y:DictEntry}(x:s.heap.IsKeyIter it d i es.size ep)(r:wx s.heap d es ep)(hy:es[i]?=some y)
  (k:∀h',h'.IsKeyIter it d (i+1) es.size ep→Heap.SameBut it s.heap h'→Q (some y.key) {s with heap:=h'}):wpAny (model P w) A (pyNext (.ref it)) Q E s:=by
 have ty:=x.typeIs
 obtain⟨o,e,c,dt⟩:=id x
 obtain⟨o2,e2,c2,Si⟩:=r
 have Pp:Builtin.Dict_items.ownsTuple "dict_keyiterator"=false:=by decide
 unfold pyNext
 refine Ss (wpAny_attempt (wpAny_callSpecial?_slot (name:=Str.ofString "__next__") ty abk (ab0 abk ty F.entry_dict_keyiterator_next ?z (F.args_dict_keyiterator_next_1 _))))
 case z=>
  refine Ss (aai (Ss (Ss ?z)))
  case z=>
   first|refine Ss (abA ty (aai (Ss (wpAny_fieldsOf e dt ?z))))|refine Ss (wpAny_typeNameOf_keyiter ty (aai (Ss (wpAny_fieldsOf e dt ?z))))
   case z=>
    simp only [Pp,aaO,ab2]
    show wpAny _ _ (if(Value.ref d ==Value.none)=true then _ else _) _ _ s
    rw[aal (fun z=>by cases z)]
    refine Ss (aai (Ss (aa_ e2 Si ?z)))
    case z=>
     rw[aal (by simp)]
     refine Ss (aai (Ss (wpAny_dictEpoch e2 Si ?z)))
     case z=>
      rw[aal (by simp)]
      refine aai ?z
      case z=>
       simp only [show ¬((i:Int)<0) by omega,ab2,abS,hy]
       refine Ss ?z
       case z=>
        first|refine Ss (abA ty (aai (Ss (wpAny_isOneOf_keyiter ty ?z))))|refine Ss (wpAny_typeNameOf_keyiter ty (aai (Ss (wpAny_isOneOf_keyiter ty ?z))))
        case z=>
         show wpAny _ _ (setField (.ref it) 1 (rawInt ((i:Int)+1)) >>= _) _ _ s
         have n:(s.heap.update it (Obj.mapFields (·.setIfInBounds 1 (rawInt ((i:Int)+1))))).IsKeyIter it d (i+1) es.size ep:=
          ⟨_,aa7 _ e (Obj.isFreed_of_fields (Obj.data_mapFields dt _)),(Obj.cls_mapFields ..).trans c,by rw[Obj.data_mapFields dt];simp[rawInt]⟩
         refine Ss (wpAny_setField e dt (by simp) (Ss (abM (Ss (wpAny_isOneOf_keyiter (s:={s with heap:=s.heap.update it (Obj.mapFields (·.setIfInBounds 1 (rawInt ((i:Int)+1))))}) n.typeIs ?z)))))
         case z=>
          show wpAny _ _ (pure y.key) _ _ _
          exact aai (aai ⟨_,rfl,aai (k _ n (abj ..))⟩)
theorem DR{Q:Option Value→Shared→Prop}(hh:A.handled=none)(x:s.heap.IsKeyIter it d i es.size ep)(r:wx s.heap d es ep)(hy:es.size≤i)
  (k:∀h',Heap.ExtBut it s.heap h'→Q none {s with heap:=h'}):wpAny (model P w) A (pyNext (.ref it)) Q E s:=by
 have ty:=x.typeIs
 obtain⟨o,e,c,dt⟩:=id x
 obtain⟨o2,e2,c2,Si⟩:=r
 have Pp:Builtin.Dict_items.ownsTuple "dict_keyiterator"=false:=by decide
 unfold pyNext
 refine Ss (wpAny_attempt (wpAny_callSpecial?_slot (name:=Str.ofString "__next__") ty abk (ab0 abk ty F.entry_dict_keyiterator_next ?z (F.args_dict_keyiterator_next_1 _))))
 case z=>
  refine Ss (aai (Ss (Ss ?z)))
  case z=>
   first|refine Ss (abA ty (aai (Ss (wpAny_fieldsOf e dt ?z))))|refine Ss (wpAny_typeNameOf_keyiter ty (aai (Ss (wpAny_fieldsOf e dt ?z))))
   case z=>
    simp only [Pp,aaO,ab2]
    show wpAny _ _ (if(Value.ref d ==Value.none)=true then _ else _) _ _ s
    rw[aal (fun z=>by cases z)]
    refine Ss (aai (Ss (aa_ e2 Si ?z)))
    case z=>
     rw[aal (by simp)]
     refine Ss (aai (Ss (wpAny_dictEpoch e2 Si ?z)))
     case z=>
      rw[aal (by simp)]
      refine aai ?z
      case z=>
       simp only [show ¬((i:Int)<0) by omega,ab2,abS,Array.getElem?_eq_none hy]
       refine Ss ?z
       case z=>
        first|refine Ss (abA ty (aai ?z))|refine Ss (wpAny_typeNameOf_keyiter ty (aai ?z))
        case z=>
         show wpAny _ _ (setField (.ref it) 0 .none >>= _) _ _ s
         refine Ss (wpAny_setField e dt (by simp) ?z)
         case z=>
          show wpAny _ _ (newExc (.type "StopIteration") [] >>= _) _ _ _
          refine Ss ?z
          case z=>
           simp only [newExc,newTuple]
           refine Ss (wpAny_newObj_type (Ss (m:=firstArgMember _ _) (wpAny_of_eq (a:=Value.none) (by first|rfl|(simp only [firstArgMember];rfl)) (wpAny_newObj_type ?z (by size_fits)))) (by size_fits))
           case z=>
            simp only [raiseNew]
            refine Ss (wpAny_handled ?z)
            case z=>
             rw[show A.in1.handled=none from hh]
             refine Ss (aai (wpAny_throw ?z))
             case z=>exact Ss (wpAny_isInstance (T:="StopIteration") (b:=true) ⟨_,aax _ rfl,rfl⟩ isSubtype_stop <| aai (k _ (((abj ..).extBut.push _).push _)))
end
section
variable{X:Cx}{c_:Qqz}{σ:St}{H:Hp}{s:Shared}{tg:Expr}
noncomputable def Hv(d:Addr)(o:Obj)(kvs:List (List Key×V)):It:=
 ⟨fun i H=>H d=some (.nc o (.dT kvs))∧i<kvs.length,fun i H x H'=>H'=H∧∃k v b,kvs[i]?=some (k,v)∧x=.ref b∧H b=some (.tup (k.map kV)),fun i H=>H d=some (.nc o (.dT kvs))∧kvs.length≤i⟩
theorem kt_at{kvs:List (List Key×V)}{xs:List (List Key×Addr×Value)}(r:KT H kvs xs):∀{i:Nat} {k:List Key} {b:Addr} {u:Value},xs[i]?=some (k,b,u)→∃v,kvs[i]?=some (k,v)∧H b=some (.tup (k.map kV))∧RelV v u:=by
 induction r with
 | nil=>intro i k b u e;simp at e
 | @cons p q ps qs f t ih=>
  intro i k b u e
  cases i with
  | zero=>
   simp at e
   subst e
   exact⟨p.2,aa2 some (Prod.ext f.1 rfl),by rw[←show p.1=k from f.1];exact f.2.1,f.2.2⟩
  | succ i=>
   obtain⟨v,h1,h2⟩:=ih (by simpa using e)
   exact⟨v,by simpa using h1,h2⟩
theorem zq{P:Program}{w:World}{h:Heap}{d:Addr}{kvs:List (List Key×V)}(q:i3 P w H h d (.dT kvs)):(d ==sysModules)=false∧kvs.length≤sizeLine∧∃(es:Array DictEntry)(ep:Nat),wx h d es ep∧es.size=kvs.length∧
  (∀(i:Nat)(y:DictEntry),es[i]?=some y→∃k v b,kvs[i]?=some (k,v)∧y.key=.ref b∧H b=some (.tup (k.map kV))∧RelV v y.val):=by
 obtain⟨hz,hs,xs,r,o,es,ep,ho,hc,hd,he,hn⟩:=q
 have sz:=aca he
 refine⟨hs,hz,es,ep,⟨o,ho,hc,hd⟩,by rw[sz];exact(aan r).symm,fun i y hy=>?_⟩
 rw[entry_at he i] at hy
 obtain⟨⟨k,b,u⟩,hx,e⟩:=Option.map_eq_some_iff.mp hy
 obtain⟨v,h1,h2,h3⟩:=kt_at r hx
 subst e
 exact⟨k,v,b,h1,rfl,h2,h3⟩
theorem Fq{P:Program}{w:World}{K:Qqy}(d it:Addr)(o:Obj)(es:Array DictEntry)(ep:Nat)(kvs:List (List Key×V))(KI:o.data=.dict es ep)(hsz:es.size=kvs.length):Turn P w K tg (Hv d o kvs) [it] it (fun i h=>h.IsKeyIter it d i es.size ep) where
 mem:=by simp
 obj:=fun i h st b hb=>by
  have e:b=it:=by simpa using hb
  subst e
  obtain⟨o,e,c,d⟩:=st
  exact⟨o,e,fun v z=>by rw[d] at z;cases z⟩
 keep:=fun i h h' st k=>st.at fun o e=>k it (by simp) o e
 item:=by
  intro X hP hw hK hc i c_ s σ H E I hf st hg
  subst hP hw hK
  obtain⟨hd,hi⟩:=hg
  obtain⟨ho,q⟩:=(show i3 X.prog X.w H s.heap d (.nc o (.dT kvs)) from I.iG d _ hd)
  obtain⟨_,_,Qh,Na,raw,sz,Iv⟩:=zq q
  obtain⟨o',qF,h2,h3⟩:=id raw
  rw[ho] at qF;cases qF
  rw[KI] at h3;cases h3
  have A5:i<es.size:=by omega
  obtain⟨k,v,b,e1,e2,e3,_⟩:=Iv i es[i] (aaV A5)
  obtain⟨f0,f1,f2,f3,f4,f5⟩:=hf it (by simp)
  refine DQ st raw (aaV A5) fun h' A4 sb=>?_
  have I1:Inv X c_ σ H {s with heap:=h'}:=I.turned (t':=s.toks) (fun b o hb e=>(sb.2 b hb).trans e) f0 f1 f3 f4 f5
  obtain⟨o',e,c,dd⟩:=id A4
  exact⟨_,rfl,y6 (s:={s with heap:=h'}) e c dd (by decide) ⟨.ref b,H,I1,e2,⟨rfl,k,v,b,e1,rfl,e3⟩,A4,fun b hb=>(hf b hb).1⟩⟩
 done:=by
  intro X hP hw hK hc i c_ s σ H E I hf st hg
  subst hP hw hK
  obtain⟨hd,hi⟩:=hg
  obtain⟨ho,q⟩:=(show i3 X.prog X.w H s.heap d (.nc o (.dT kvs)) from I.iG d _ hd)
  obtain⟨_,_,Qh,Na,raw,sz,Iv⟩:=zq q
  obtain⟨o',qF,h2,h3⟩:=id raw
  rw[ho] at qF;cases qF
  rw[KI] at h3;cases h3
  obtain⟨f0,f1,f2,f3,f4,f5⟩:=hf it (by simp)
  exact DR (I.ok.hd hc) st raw (by omega) fun h' eb=>⟨rfl,I.turned (t':=s.toks) (fun b o hb e=>eb b o hb e) f0 f1 f3 f4 f5⟩
 self:=fun _ _ _ _ _ st h=>wpAny_pyIter_keyiter st h
def Oi(X:Cx)(td:TE):TI:=fun σ H R=>td σ H fun x H1=>∃d kvs,x=.ref d∧H1 d=some (.dT kvs)∧∀o,zo X d→R (Hv d o kvs) (upd H1 d (.nc o (.dT kvs)))
theorem zr{l:Expr}{td:TE}(hl:PE X l td):PI X tg l (Oi X td):=by
 intro c_ s σ H R I h
 refine iS (hl c_ s σ H _ I h) fun v s1 ⟨x,H1,I1,r1,q1⟩=>?_
 obtain⟨d,kvs,e,hd,q⟩:=q1
 subst e
 cases r1
 have nf:=I1.Og hd True.intro
 obtain⟨o,ho,I2⟩:=I1.frozen hd True.intro
 obtain⟨hs,_,es,ep,raw,sz,_⟩:=zq (I1.iG d _ hd)
 obtain⟨o',qF,h2,h3⟩:=id raw
 rw[ho] at qF;cases qF
 refine DP hs raw ?_
 refine⟨s1.heap.objs.size,[s1.heap.objs.size],_,_,_,rfl,I2.kept (t':=s1.toks) fun b o e=>YH _ e,Fq d _ o es ep kvs h3 sz,⟨_,aax _ rfl,rfl,rfl⟩,fun b hb=>?_,q o nf⟩
 have e:b=s1.heap.objs.size:=by simpa using hb
 subst e
 exact I2.yu (Vx _) (I2.iG.fresh (Vx _))
theorem Bp{d:Addr}{o:Obj}{kvs:List (List Key×V)}{g:TG}{tb:TS}{D:Ends}{σ:St}{H:Hp}(Pv:Nat→St→Hp→Prop)(h0:Pv 0 σ H)(hl:∀i σ H,Pv i σ H→H d=some (.nc o (.dT kvs)))
  (hs:∀i k v b σ H,kvs[i]?=some (k,v)→H b=some (.tup (k.map kV))→Pv i σ H→g (.ref b) σ H fun σ2 H2=>tb {D with nx:=Pv (i+1),ct:=Pv (i+1),bk:=D.nx} σ2 H2) (hd:∀σ H,Pv kvs.length σ H→D.nx σ H) :
  ∃W:Nat→Nat→St→Hp→Prop,(∃m,W 0 m σ H)∧∀i m σ H,W i m σ H→
   ((Hv d o kvs).stop i H∧D.nx σ H)∨((Hv d o kvs).go i H∧∃N:St→Hp→Prop,(∀σ' H',N σ' H'→∃m',m'<m∧W (i+1) m' σ' H')∧∀x H',(Hv d o kvs).IE i H x H'→g x σ H' fun σ2 H2=>tb {D with nx:=N,ct:=N,bk:=D.nx} σ2 H2):=by
 refine⟨fun i m σ H=>m=kvs.length-i∧i≤kvs.length∧Pv i σ H,⟨kvs.length,by simp,aaI _,h0⟩,?_⟩
 rintro i m σ H ⟨rfl,hi,p⟩
 have q:=hl i σ H p
 by_cases kB:i<kvs.length
 ·refine .inr ⟨⟨q,kB⟩,Pv (i+1),fun σ' H' p'=>⟨kvs.length-(i+1),by omega,rfl,kB,p'⟩,fun x H' y=>?_⟩
  obtain⟨e,k,v,b,y,rfl,hb⟩:=y
  subst e
  exact hs i k v b σ _ y hb p
 ·have e:i=kvs.length:=by omega
  subst e
  exact .inl ⟨⟨q,Vx _⟩,hd σ H p⟩
theorem Ju{d:Addr}{o:Obj}{kvs:List (List Key×V)}{g:TG}{tt:TT}{te:TE}{Q:List V→Hp→Prop}{σ:St}{H:Hp}(hn:kvs.length≤sizeLine)(Pv:Nat→List V→St→Hp→Prop)(h0:Pv 0 [] σ H)(hl:∀i ys σ H,Pv i ys σ H→H d=some (.nc o (.dT kvs))∧ys.length≤i)
  (hs:∀i k v b ys σ H,kvs[i]?=some (k,v)→H b=some (.tup (k.map kV))→Pv i ys σ H→g (.ref b) σ H fun σ2 H2=>tt σ2 H2 fun c H3=>if c=true then te σ2 H3 fun v H4=>Pv (i+1) (ys++[v]) σ2 H4 else Pv (i+1) ys σ2 H3)
  (hd:∀ys σ H,Pv kvs.length ys σ H→Q ys H):Fm g tt te (Hv d o kvs) Q σ H:=by
 refine⟨fun i m ys σ H=>m=kvs.length-i∧i≤kvs.length∧Pv i ys σ H,⟨kvs.length,by simp,aaI _,h0⟩,?_⟩
 rintro i m ys σ H ⟨rfl,hi,p⟩
 obtain⟨q,hy⟩:=hl i ys σ H p
 by_cases kB:i<kvs.length
 ·refine .inr ⟨⟨q,kB⟩,by omega,Pv (i+1),fun Qj σ' H' p'=>⟨kvs.length-(i+1),by omega,rfl,kB,p'⟩,fun x H' y=>?_⟩
  obtain⟨e,k,v,b,y,rfl,hb⟩:=y
  subst e
  exact hs i k v b ys σ _ y hb p
 ·have e:i=kvs.length:=by omega
  subst e
  exact .inl ⟨⟨q,Vx _⟩,by omega,hd ys σ H p⟩
end
section
variable{P:Program}{w:World}{d it:Addr}{es:Array DictEntry}{ep:Nat}
theorem Hw{A:Around}(hh:A.handled=none)(sJ:d≠it):Walks P w A it [it,d] [it] es.size (fun i v=>∃y,es[i]?=some y∧v=y.key) (fun i h=>h.IsKeyIter it d i es.size ep∧wx h d es ep) where
 sub:=fun b hb=>by rw[List.mem_singleton.mp hb];exact aav
 frame:=fun i h h' ⟨a,b⟩ hk=>⟨a.at fun o e=>hk it aav o e,b.at fun o e=>hk d (by simp) o e⟩
 item:=fun i s Q E hi ⟨a,b⟩ hQ=>DQ a b (aaV hi) fun h' a' sb=>hQ _ h' s.toks ⟨_,aaV hi,rfl⟩ ⟨a',b.at fun o e=>sb.extBut d o sJ e⟩ fun b o hb e=>sb.extBut b o (fun z=>hb (by rw[z];exact List.mem_singleton.mpr rfl)) e
 done:=fun s Q E ⟨a,b⟩ hQ=>DR hh a b (Vx _) fun h' eb=>hQ h' s.toks fun b o hb e=>eb b o (fun z=>hb (by rw[z];exact List.mem_singleton.mpr rfl)) e
 self:=fun i s Q E ⟨a,_⟩ hQ=>wpAny_pyIter_keyiter a hQ
theorem LM(lo:(d ==sysModules)=false):W.KdlSrc P w "dict" d d es.size (fun i v=>∃y,es[i]?=some y∧v=y.key) (fun h=>wx h d es ep) where
 type:=fun s r=>r.ty
 there:=fun h ⟨o,e,_⟩=>⟨aar e,aar e⟩
 keep:=fun h h' r hk=>r.at fun o e=>hk d (.inl rfl) o e
 notList:=by decide
 notTuple:=by decide
 hint:=fun A E s Q r hq=>W.kdl_hint_dict r.ty hq
 iter:=fun A s hh r=>⟨_,_,(fun E Q hq=>DP lo r hq),Hw hh (by obtain⟨o,e,_⟩:=r;exact aaN (aar e)),⟨⟨_,aax _ rfl,rfl,rfl⟩,r.at fun o e=>YH _ e⟩⟩
end
section
variable{X:Cx}{c_:Qqz}{σ:St}{H:Hp}{s:Shared}
theorem yw(hc:X.calm=true):uL X (.type "list") (fun xs H Q=>∃d kvs,xs=[V.ref d]∧H d=some (.dT kvs)∧∀p bs,H p=none→Paired (fun(kv:List Key×V) (b:Addr)=>H b=some (.tup (kv.1.map kV))) kvs bs→Q (.ref p) (upd H p (.lst (bs.map V.ref)))):=by
 intro c_ s σ H xs us Q I r h
 obtain⟨d,kvs,rfl,hd,q⟩:=h
 obtain⟨u,rfl,ru⟩:=vals1 r
 cases (show u=Value.ref d from ru)
 obtain⟨hs,hz,es,ep,raw,sz,Iv⟩:=zq (I.iG d _ hd)
 refine W.kdl_call (LM hs) (I.ok.hd hc) raw (by omega) fun h' tk acc c hk hS tE=>?_
 have hf:H s.heap.objs.size=none:=I.iG.fresh (Vx _)
 have hb:∀i:Nat,i<kvs.length→∃k v b,kvs[i]?=some (k,v)∧(es[i]?.map DictEntry.key)=some (Value.ref b)∧H b=some (.tup (k.map kV)):=fun i hi=>by
  have A5:i<es.size:=by omega
  obtain⟨k,v,b,e1,e2,e3,_⟩:=Iv i es[i] (aaV A5)
  exact⟨k,v,b,e1,by rw[aaV A5,ab7,e2],e3⟩
 let adr:Value→Addr:=fun v=>match v with|.ref b=>b|_=>0
 let bs:List Addr:=es.toList.map fun y=>adr y.key
 have Nh:bs.length=kvs.length:=by show(es.toList.map _).length=_;rw[So,aa5];exact sz
 have Y6:∀(i:Nat)(b:Addr),bs[i]?=some b→∃k v,kvs[i]?=some (k,v)∧es[i]?.map DictEntry.key=some (Value.ref b)∧H b=some (.tup (k.map kV)):=fun i b e=>by
  have hi:i<kvs.length:=by rw[←Nh];exact(List.getElem?_eq_some_iff.mp e).1
  obtain⟨k,v,b',e1,e2,e3⟩:=hb i hi
  have:bs[i]?=some b':=by
   show(es.toList.map _)[i]?=_
   rw[aae,aa0]
   obtain⟨y,ey,e4⟩:=Option.map_eq_some_iff.mp e2
   rw[ey]
   show some (adr y.key)=_
   rw[e4]
  rw[this] at e
  cases e
  exact⟨k,v,e1,e2,e3⟩
 have rel:Vals (bs.map V.ref) acc.toList:=by
  refine pB (by have e1:=tE.1;have e2:acc.toList.length=acc.size:=aa5;rw[So,Nh];omega) fun i a b ha hb=>?_
  rw[aae] at ha
  obtain⟨b',e,rfl⟩:=Option.map_eq_some_iff.mp ha
  obtain⟨k,v,_,e2,_⟩:=Y6 i b' e
  obtain⟨y,hy,hv⟩:=tE.2 i b (by rw[←aa0];exact hb)
  rw[hy,ab7] at e2
  show b=.ref b'
  rw[hv,aaz e2]
 refine⟨.ref s.heap.objs.size,upd H s.heap.objs.size (.lst (bs.map V.ref)),I.laid (t':=tk) hk (Vx _) ?_,rfl,q _ bs hf (pB Nh.symm fun i a b ha hb=>?_)⟩
 ·exact⟨by rw[So,Nh];exact hz,acc.toList,c,rel,by rw[Array.toArray_toList];exact hS⟩
 ·obtain⟨k,v,e1,_,e3⟩:=Y6 i b hb
  rw[e1] at ha
  cases ha
  exact e3
end
section
variable{P:Program}{w:World}{κ:Type}[DecidableEq κ]{knd:HeapKind P w κ}{A:Around}{E:Qqq}{s:Shared}{d a:Addr}{xs:List (κ×Addr×Value)}{k:κ}
theorem Jw{v:Value}{Q:Unit→Shared→Prop}(hu:knd.room A)(hk:knd.is s.heap k a)(m:s.heap.DictOfH knd d xs)(hz:xs.length≤sizeLine)
  (q:∀h',h'.DictOfH knd d (storedH xs k a v)→Heap.SameBut d s.heap h'→Q () {s with heap:=h'}):wpAny (model P w) A (dictSetHashed d (.ref a) (knd.hash k) v) Q E s:=by
 obtain⟨o,es,ep,ho,hc,hd,he,Qn,hn⟩:=m
 have sz:=aca he
 unfold dictSetHashed
 try with_reducible refine abM ?_
 refine Ss (wpAny_dictFind_heap hu hk ho hd he Qn hn (fun no=>?_) fun j p hj=>?_)
 ·have at0:=atKey_none_of_get no
  refine Ss (wpAny_rule (wpAny_updateDictKeys (hz:=by omega) ho hd (q _ ?_ (abj ..))))
  rw[storedH_new at0]
  refine⟨_,_,ep+1,aa7 _ ho (Obj.isFreed_of_dict (Obj.data_mapDictKeys hd _)),hc.mapDictKeys _,Obj.data_mapDictKeys hd _,by simp[he,entryOfKey],fun x hx=>?_,?_⟩
  ·refine knd.keeps ?_ ho hd (abj ..)
   rcases Wl.mp hx with hx|hx
   ·exact Qn x hx
   ·rw[List.mem_singleton.mp hx];exact hk
  ·rw[aat,aaZ]
   exact⟨hn,by simp,fun x hx y hy z=>not_mem_keys_of_get no (by rw[List.mem_singleton.mp hy] at z;have z:x=k:=z;exact z▸hx)⟩
 ·have at1:=atKey_of_get hn hj
  refine Ss (wpAny_rule (Ss (wpAny_updateDict ho hd (wpAny_point (q _ ?_ (abj ..))))))
  rw[storedH_old at1]
  refine⟨_,_,ep,aa7 _ ho (Obj.isFreed_of_dict (Obj.data_mapDict hd _)),hc.mapDict _,Obj.data_mapDict hd _,?_,fun x hx=>?_,by rw[keys_map_putAt];exact hn⟩
  ·have z:=modify_map_putAt (entryOfKey knd) (fun e:DictEntry=>{e with val:=v}) k v (fun _ _=>rfl) hn hj
   rw[←he] at z
   obtain⟨l⟩:=es
   simpa using z
  ·obtain⟨y,hy,rfl⟩:=List.mem_map.mp hx
   unfold putAt
   split<;>exact knd.keeps (Qn y hy) ho hd (abj ..)
noncomputable def DS(xs:List (κ×Addr×Value))(k:κ):List (κ×Addr×Value):=xs.filter fun x=>decide (x.1≠k)
theorem Fs{β:Type}(f:κ×Addr×Value→β):∀{xs:List (κ×Addr×Value)} {j:Nat} {p:Addr×Value},(xs.map (·.1)).Nodup→xs[j]?=some (k,p)→(xs.map f).eraseIdx j=(DS xs k).map f:=by
 intro xs
 induction xs with
 | nil=>intro j p _ hj;simp at hj
 | cons x r ih=>
  intro j p hn hj
  rw[aaw,aaX] at hn
  unfold DS
  cases j with
  | zero=>
   simp at hj
   have e:r.filter (fun x=>decide (x.1≠k))=r:=List.filter_eq_self.mpr fun y hy=>Vy fun z=>hn.1 (by rw[hj];show k∈_;rw[←z];exact aaa hy)
   rw[aag (by rw[hj];simp),e]
   rfl
  | succ j=>
   have hj:r[j]?=some (k,p):=by simpa using hj
   have ne:x.1≠k:=fun z=>hn.1 (by rw[z];exact List.mem_map.mpr ⟨_,Vs hj,rfl⟩)
   rw[YK (by simpa using ne),aaw,aaw,List.eraseIdx_cons_succ,ih hn.2 hj]
   rfl
theorem Jx{p:Addr×Value}{Q:Option DictEntry→Shared→Prop}(hu:knd.room A)(hk:knd.is s.heap k a)(m:s.heap.DictOfH knd d xs)(hz:xs.length≤sizeLine)(hp:atKey xs k=some p)
  (q:∀h',h'.DictOfH knd d (DS xs k)→Heap.SameBut d s.heap h'→Q (some ⟨knd.hash k,.ref p.1,p.2⟩) {s with heap:=h',toks:=s.toks+knd.draws k}):wpAny (model P w) A (Builtin.Dict.takeOut d (.ref a)) Q E s:=by
 obtain⟨o,es,ep,ho,hc,hd,he,Qn,hn⟩:=m
 have sz:=aca he
 unfold Builtin.Dict.takeOut
 try with_reducible refine abM ?_
 refine Ss (knd.pyHash hu hk (Ss (wpAny_dictFind_heap (s:={s with toks:=s.toks+knd.draws k}) hu hk ho hd he Qn hn (fun no=>?_) fun j p' hj=>?_)))
 ·rw[atKey_none_of_get no] at hp;cases hp
 ·have e:=atKey_of_get hn hj
  rw[hp] at e
  cases e
  refine Ss (aa_ (s:={s with toks:=s.toks+knd.draws k}) ho hd ?_)
  rw[entry_at he j,hj]
  refine Ss (wpAny_updateDictKeys (hz:=by omega) (s:={s with toks:=s.toks+knd.draws k}) ho hd (aai (q _ ?_ (abj ..))))
  refine⟨_,_,ep+1,aa7 _ ho (Obj.isFreed_of_dict (Obj.data_mapDictKeys hd _)),hc.mapDictKeys _,Obj.data_mapDictKeys hd _,?_,fun x hx=>knd.keeps (Qn x (aam.mp hx).1) ho hd (abj ..),(aaU.map _).nodup hn⟩
  have z:=Fs (k:=k) (entryOfKey knd) hn hj
  rw[←he] at z
  rw[←z]
  obtain⟨l⟩:=es
  simp
noncomputable def kE(xs more:List (κ×Addr×Value)):List (κ×Addr×Value):=more.foldl (fun acc x=>storedH acc x.1 x.2.1 x.2.2) xs
theorem DT{xs more:List (κ×Addr×Value)}{i:Nat}{x:κ×Addr×Value}(h:more[i]?=some x):kE xs (more.take (i+1))=storedH (kE xs (more.take i)) x.1 x.2.1 x.2.2:=by
 unfold kE
 rw[List.take_add_one,h,List.foldl_append]
 rfl
theorem DU(xs:List (κ×Addr×Value))(k:κ)(a:Addr)(v:Value):(storedH xs k a v).length≤xs.length+1:=by
 unfold storedH
 split
 ·rw[So];omega
 ·rw[Vq];exact Vx _
theorem Ft(xs:List (κ×Addr×Value)):∀more:List (κ×Addr×Value),(kE xs more).length≤xs.length+more.length:=by
 intro more
 unfold kE
 induction more generalizing xs with
 | nil=>exact Vx _
 | cons x r ih=>
  have h1:=ih (storedH xs x.1 x.2.1 x.2.2)
  have h2:=DU xs x.1 x.2.1 x.2.2
  rw[List.foldl_cons,aaf]
  omega
theorem Fu{nm:String}{o:Addr}{more:List (κ×Addr×Value)}{Q:Unit→Shared→Prop}(hu:knd.room A)(ne:d≠o)(lo:(o ==sysModules)=false)(sJ:xs≠[])(md:s.heap.DictOfH knd d xs)(mo:s.heap.DictOfH knd o more)(hz:xs.length+more.length≤sizeLine)
  (q:∀h',h'.DictOfH knd d (kE xs more)→Heap.SameBut d s.heap h'→Q () {s with heap:=h'}):wpAny (model P w) A (Builtin.Dict.mergeDict nm d o) Q E s:=by
 obtain⟨od,Ue,epd,Ni,BM,Qo,Sj,Ub,Pq⟩:=id md
 obtain⟨oo,Ij,epo,Ug,hco,KI,Kw,hio,hno⟩:=id mo
 have szo:=aca Kw
 have Y7:=aca Sj
 unfold Builtin.Dict.mergeDict Builtin.Dict.showsAll
 rw[aal (by simpa using ne),lo,aal (fun z=>by cases z)]
 refine Ss (aai (Ss (aa_ Ug KI ?_)))
 dsimp only
 have loop:wpAny (model P w) A (do
   let Sk ←dictEpoch o
   let l ←dictEntries o
   forIn [:l.size] PUnit.unit fun i (_:PUnit)=>(do
     let l' ←dictEntries o
     match l'[i]? with
      | some e=>do
       holding [e.key,e.val] (dictSetHashed d e.key e.hash e.val)
       let Na ←dictEpoch o
       if(Na != Sk)=true then do (unsupported (toString nm++toString ":source-changed-during-callback"):Sem PUnit);pure (ForInStep.yield PUnit.unit)
        else pure (ForInStep.yield PUnit.unit)
      | _=>do (unsupported "internal:dict-merge":Sem PUnit);pure (ForInStep.yield PUnit.unit):Sem (ForInStep PUnit))
   pure ()) Q E s:=by
  refine Ss (wpAny_dictEpoch Ug KI (Ss (aa_ Ug KI (Ss ?_))))
  rw[Std.Legacy.Range.forIn_eq_forIn_range']
  simp only [Std.Legacy.Range.size,Nat.sub_zero,Nat.add_sub_cancel,Nat.div_one]
  refine wpAny_forIn_list _ (fun rest _ s'=>∃h' i,s'={s with heap:=h'}∧rest=List.range' i (Ij.size-i)∧i≤Ij.size∧h'.DictOfH knd d (kE xs (more.take i))∧Heap.SameBut d s.heap h') _ ?_ ?_ _ _ ⟨s.heap,0,rfl,by simp,aaI _,by simpa[kE] using md,Heap.SameBut.refl _ _⟩
  ·rintro x rest b s' ⟨h',i,rfl,hr,hi,hm,hs⟩
   have kB:i<Ij.size:=by
    rcases Nat.lt_or_ge i Ij.size with z|z
    ·exact z
    ·rw[Nat.sub_eq_zero_of_le z] at hr;simp at hr
   obtain⟨ex,er⟩:x=i∧rest=List.range' (i+1) (Ij.size-(i+1)):=by
    rw[show Ij.size-i=(Ij.size-(i+1))+1 by omega,acf] at hr
    exact List.cons.inj hr
   subst ex
   have Sl:h'.get? o=some oo:=(hs.2 o (abF ne)).trans Ug
   refine Ss (aa_ Sl KI ?_)
   obtain⟨⟨k,b2,v⟩,hx⟩:∃y,more[x]?=some y:=⟨more[x]'(by omega),Su _⟩
   rw[entry_at Kw x,hx]
   show wpAny _ _ (holding [Value.ref b2,v] (dictSetHashed d (.ref b2) (knd.hash k) v) >>= _) _ _ _
   have hl:(kE xs (more.take x)).length≤sizeLine:=by
    have:=Ft xs (more.take x)
    rw[aaB] at this
    omega
   have hib:knd.is h' k b2:=knd.keeps (hio _ (Vs hx)) Ni Qo hs
   refine Ss (abM (Jw (s:={s with heap:=h'}) hu hib hm hl fun h2 m2 s2=>?_))
   refine Ss (wpAny_dictEpoch ((s2.2 o (abF ne)).trans Sl) KI ?_)
   rw[aal (by simp)]
   exact aai ⟨h2,x+1,rfl,er,kB,by rw[DT hx];exact m2,hs.trans s2⟩
  ·rintro b s' ⟨h',i,rfl,hr,hi,hm,hs⟩
   have e:i=Ij.size:=by
    rcases Nat.lt_or_ge i Ij.size with z|z
    ·rw[show Ij.size-i=(Ij.size-(i+1))+1 by omega,acf] at hr;cases hr
    ·omega
   refine aai (q h' ?_ hs)
   rw[e,szo,aak] at hm
   exact hm
 split
 ·refine Ss (aa_ Ni Qo ?_)
  rw[aal (fun z=>?_)]
  ·exact loop
  ·have:Ue=#[]:=Array.isEmpty_iff.mp z
   rw[this] at Y7
   exact sJ (aaE.mp Y7.symm)
 ·exact loop
theorem Jy{o:Addr}{more:List (κ×Addr×Value)}{Q:Qqq}(hu:knd.room A.in1)(ne:d≠o)(lo:(o ==sysModules)=false)(sJ:xs≠[])(md:s.heap.DictOfH knd d xs)(mo:s.heap.DictOfH knd o more)(hz:xs.length+more.length≤sizeLine)
  (q:∀h',h'.DictOfH knd d (kE xs more)→Heap.SameBut d s.heap h'→Q .none {s with heap:=h'}):wpAny (model P w) A (call (.builtin "dict.update") [.ref d,.ref o]) Q E s:=by
 refine ab0 abW md.typeIs PySem.F.entry_dict_update ?_ (PySem.F.args_dict_update_2 _ _)
 unfold Builtin.«dict.update» Builtin.Dict.selfAndRest
 refine Ss (Ss (wpAny_notOrdered_dict md.typeIs (show wpAny _ _ (pure (d,[Value.ref o])) _ _ s from aai ?_)))
 show wpAny _ _ (Builtin.Dict.updateFrom "dict.update" d (.ref o) [] .none) _ _ s
 unfold Builtin.Dict.updateFrom
 refine Ss (wpAny_typeOf mo.typeIs ?_)
 rw[aal (by decide)]
 unfold Builtin.Dict.merge Builtin.Dict.readDirectly
 refine Ss (Ss (Ss (wpAny_isInstance mo.typeIs isSubtype_dict_dict ?_)))
 simp only [Bool.not_true,aaO,ab2]
 refine Ss (ab9 mo.typeIs F.slot_dict_iter.lookup (aai ?_))
 simp only [ace,if_true]
 refine Ss (aai (Fu hu ne lo sJ md mo hz fun h' m s'=>?_))
 show wpAny _ _ (Builtin.Dict.addKeywords d [] >>= _) _ _ _
 exact Ss (aai (aai ⟨.none,rfl,q h' m s'⟩))
end
noncomputable def putAll{κ:Type}[DecidableEq κ](kvs more:List (κ×V)):List (κ×V):=more.foldl (fun acc kv=>putK acc kv.1 kv.2) kvs
section
variable{κ:Type}[DecidableEq κ]
theorem rC(kvs:List (κ×V))(p:κ×V)(r:List (κ×V)):putAll kvs (p::r)=putAll (putK kvs p.1 p.2) r:=rfl
theorem qf:∀(more kvs:List (κ×V)),(putAll kvs more).length≤kvs.length+more.length
 | [],kvs=>Vx _
 | p::r,kvs=>by
  have h1:=qf r (putK kvs p.1 p.2)
  have h2:=js kvs p.1 p.2
  rw[rC,aaf]
  omega
theorem kt_merged{H:Hp}{more:List (List Key×V)}{ys:List (List Key×Addr×Value)}(r:KT H more ys):∀{kvs:List (List Key×V)} {xs:List (List Key×Addr×Value)},KT H kvs xs→KT H (putAll kvs more) (kE xs ys):=by
 induction r with
 | nil=>intro kvs xs r;exact r
 | @cons p q ps qs f t ih=>
  intro kvs xs r
  have z:=r.put p.1 (b:=q.2.1) f.2.1 f.2.2
  have z2:=ih z
  rw[show kE xs (q::qs)=kE (storedH xs q.1 q.2.1 q.2.2) qs from rfl,←show p.1=q.1 from f.1]
  exact z2
theorem Hx{more:List (κ×V)}{ys:List (κ×Value)}(r:KV more ys):∀{kvs:List (κ×V)} {xs:List (κ×Value)},KV kvs xs→KV (putAll kvs more) (merged xs ys):=by
 induction r with
 | nil=>intro kvs xs r;exact r
 | @cons p q ps qs f t ih=>
  intro kvs xs r
  have z:=ih (KV.put r p.1 f.2)
  rw[show merged xs (q::qs)=merged (stored xs q.1 q.2) qs from rfl,←show p.1=q.1 from f.1]
  exact z
end
section
variable{X:Cx}{c_:Qqz}{σ:St}{H:Hp}{s:Shared}{a b:Addr}{A:Around}{E:Qqq}
theorem LN{kvs:List (List Key×V)}{xs:List (List Key×Addr×Value)}(r:KT H kvs xs)(k:List Key):KT H (jP kvs k) (DS xs k):=by
 induction r with
 | nil=>exact .nil
 | @cons p q ps qs f t ih=>
  unfold jP DS
  by_cases e:p.1=k
  ·have e':q.1=k:=f.1.symm.trans e
   rw[aag (by simp[e]),aag (by simp[e'])]
   exact ih
  ·have e':¬q.1=k:=fun z=>e (f.1.trans z)
   rw[YK (by simp[e]),YK (by simp[e'])]
   exact .cons f ih
theorem Oj{kvs more:List (List Key×V)}{Q:Qqq}(hu:A.units+1<cLine)(I:Inv X c_ σ H s)(ha:H a=some (.dT kvs))(hb:Rd H b (.dT more))(ne:a≠b)(h0:kvs≠[])(hz:kvs.length+more.length≤sizeLine)
  (h:∀s',Inv X c_ σ (upd H a (.dT (putAll kvs more))) s'→Q .none s'):wpAny (model X.prog X.w) A (call (.builtin "dict.update") [.ref a,.ref b]) Q E s:=by
 obtain⟨z,lo,xs,rel,dd⟩:=IU I.iG ha
 obtain⟨z2,Wa,ys,KJ,Wb⟩:=xv I.iG hb
 have l1:=aan rel
 have l2:=aan KJ
 have x0:xs≠[]:=fun e=>h0 (aaE.mp (by rw[l1,e];rfl))
 refine Jy (abz hu) ne Wa x0 dd Wb (by omega) fun h' m hs=>h _ ?_
 obtain⟨q,es,ep,hq,h2,h3,h4,_,h5⟩:=m
 refine sT (t':=s.toks) I (by rw[ha];exact True.intro) hs ⟨q,hq⟩ ⟨aac (qf _ _) hz,lo,_,(kt_merged KJ rel).keeps fun c ys ec=>?_,q,es,ep,hq,h2,h3,h4,h5⟩
 rw[e_ (i4 ec ha (fun z=>nomatch z))]
 exact ec
theorem Ol{kvs more:List (Key×V)}{Q:Qqq}(I:Inv X c_ σ H s)(ha:H a=some (.dK kvs))(hb:Rd H b (.dK more))(ne:a≠b)(hz:kvs.length+more.length≤sizeLine)
  (h:∀s',Inv X c_ σ (upd H a (.dK (putAll kvs more))) s'→Q .none s'):wpAny (model X.prog X.w) A (call (.builtin "dict.update") [.ref a,.ref b]) Q E s:=by
 obtain⟨z,lo,xs,rel,dd⟩:=IT I.iG ha
 obtain⟨z2,Wa,ys,KJ,Wb⟩:=xu I.iG hb
 have l1:=rel.length
 have l2:=KJ.length
 refine call_meetsIn abW dd.typeIs PySem.F.entry_dict_update (PySem.F.args_dict_update_2 _ _) (meets_dict_update (ja X.prog X.w) a b ne Wa) ⟨xs,ys,dd,Wb,by omega,fun h' K8 _ hs=>h _ ?_⟩
 have he:∃q,h'.get? a=some q:=let ⟨q,_,_,hq,_⟩:=K8;⟨q,hq⟩
 exact sT (t':=s.toks) I (by rw[ha];exact True.intro) hs he (Fj (aac (qf _ _) hz) lo (Hx KJ rel) K8)
theorem Om{kvs:List (List Key×V)}{k:List Key}{v:V}{Q:Qqq}(hu:A.units+1<cLine)(I:Inv X c_ σ H s)(ha:H a=some (.dT kvs))(hb:H b=some (.tup (k.map kV)))(l:iN kvs k=some v)
  (h:∀w' s',Inv X c_ σ (upd H a (.dT (jP kvs k))) s'→RelV v w'→Q w' s'):wpAny (model X.prog X.w) A (call (.builtin "dict.pop") [.ref a,.ref b]) Q E s:=by
 obtain⟨z,lo,xs,rel,dd⟩:=IU I.iG ha
 have l1:=aan rel
 obtain⟨w',hw,Ag⟩:=pk.some_of (v:=v) (o:=(atKey xs k).map (·.2)) (by rw[←l];exact rel.val k)
 obtain⟨p,hp,AG⟩:=Option.map_eq_some_iff.mp hw
 obtain⟨od,Ue,epd,Ni,BM,Qo,Sj,Ub,Pq⟩:=id dd
 refine ab0 ab8 dd.typeIs PySem.F.entry_dict_pop ?_ (PySem.F.args_dict_pop_2 _ _)
 unfold Builtin.«dict.pop» Builtin.Dict.keyAndDefault
 refine Ss (Ss (wpAny_notOrdered_dict dd.typeIs (show wpAny _ _ (pure (a,Value.ref b,none)) _ _ s from aai ?_)))
 have part:(keyPart (Value.ref b)).isSome=false:=rfl
 simp only [part,aaO,ab2]
 refine Ss (aa_ Ni Qo (Ss (aai ?_)))
 have ne:Ue.isEmpty=false:=by
  rw[abE]
  intro e
  have e:Ue=#[]:=Array.isEmpty_iff.mp e
  have sz:=aca Sj
  rw[e] at sz
  have:xs=[]:=aaE.mp sz.symm
  rw[this] at hp
  cases hp
 simp only [ne,aaO,ab2]
 refine Ss (Jx (abz hu) (ub I.iG hb) dd (by omega) hp fun h' m hs=>?_)
 simp only [Option.isNone_some,aaO,ab2]
 refine Ss (wpAny_letGo (aai ⟨p.2,rfl,?_⟩))
 rw[AG]
 refine h w' _ ?_ Ag
 obtain⟨q,es,ep,hq,h2,h3,h4,_,h5⟩:=m
 refine sT I (by rw[ha];exact True.intro) hs ⟨q,hq⟩ ⟨aac (DJ _ _) z,lo,_,(LN rel k).keeps fun c ys ec=>?_,q,es,ep,hq,h2,h3,h4,h5⟩
 rw[e_ (i4 ec ha (fun z=>nomatch z))]
 exact ec
theorem LO{d:Addr}{es:Array DictEntry}{ep:Nat}{Q:Qqq}{P:Program}{w:World}(lo:(d ==sysModules)=false)(r:wx s.heap d es ep)(fit:(es.size:Int)<2 ^ 63)
  (h:Q (.int es.size (s.toks+1)) {s with toks:=s.toks+1+1}):wpAny (model P w) A (Builtin.«len» ⟨[.ref d],[]⟩) (fun fin s'=>∃r,fin=.done (.ret r)∧Q r s') E s:=by
 obtain⟨o,ho,hc,hd⟩:=id r
 unfold Builtin.«len»
 refine Ss (m:=oneArg "len" _) (aai (Ss (m:=callSpecial? (.ref d) (Str.ofString "__len__")) (wpAny_callSpecial?_slot (name:=Str.ofString "__len__") r.ty F.slot_dict_len (ab0 F.slot_dict_len r.ty F.entry_dict_len ?_ (F.args_dict_len_1 _)))))
 show wpAny _ _ (dictSize d >>= _) _ _ s
 unfold dictSize
 refine Ss (Ss (aa_ ho hd (aai ?_)))
 show wpAny _ _ (Builtin.Dict.pendingCount d >>= _) _ _ s
 refine Ss (wpAny_pendingCount_other lo (wpAny_ret_mkInt ?_))
 show wpAny _ _ _ _ _ {s with toks:=s.toks+1}
 refine Ss (abM (aai (Ss (wpAny_letGo ?_))))
 show wpAny _ _ (if((es.size+0:Nat):Int)<0 then _ else _) _ _ _
 rw[aal (by omega),Nat.add_zero]
 show wpAny _ _ (if((es.size:Nat):Int)≥2 ^ 63 then _ else _) _ _ _
 rw[aal (by omega)]
 exact Ss (wpAny_mkInt (aai ⟨_,rfl,h⟩))
theorem Fv{d:Addr}{es:Array DictEntry}{ep:Nat}{Q:Bool→Shared→Prop}{P:Program}{w:World}(lo:(d ==sysModules)=false)(r:wx s.heap d es ep)(fit:(es.size:Int)<2 ^ 63)
  (h:Q ((es.size:Int) != 0) {s with toks:=s.toks+1+1}):wpAny (model P w) A (truthy (.ref d)) Q E s:=by
 have key:wpAny (model P w) A (runValue (.builtin "len" ⟨[.ref d],[]⟩)) (fun r s'=>r=.int es.size (s.toks+1)∧Q ((es.size:Int) != 0) s') E s:=by
  refine wpAny_runValue (codeAny_builtin entry_len ?_)
  rw[Around.under_plainId plain_len _]
  refine abo (LO (Q:=fun r s'=>r=.int es.size (s.toks+1)∧Q ((es.size:Int) != 0) s') lo r fit ⟨rfl,h⟩) (fun fin s' h'=>?_) fun _ _ e=>e
  obtain⟨r,rfl,hq⟩:=h'
  exact hq
 unfold truthy
 first
  | refine Ss (wpAny_callSpecial?_none (name:=Str.ofString "__bool__") r.ty noBool_dict ?_)
  | refine Ss (aai (Ss (wpAny_callSpecial?_none (name:=Str.ofString "__bool__") r.ty noBool_dict ?_)))
 first
  | refine Ss (ab9 (name:=Str.ofString "__len__") r.ty F.slot_dict_len.lookup ?_)
  | refine Ss (aai (Ss (ab9 (name:=Str.ofString "__len__") r.ty F.slot_dict_len.lookup ?_)))
 first
  | exact Ss (abo key (fun r s' h'=>by obtain⟨rfl,hq⟩:=h';exact aai hq) fun _ _ e=>e)
  | exact Ss (aai (Ss (abo key (fun r s' h'=>by obtain⟨rfl,hq⟩:=h';exact aai hq) fun _ _ e=>e)))
end
def Oo(td ty:TE):TE:=fun σ H Q=>td σ H fun x H1=>∃a,x=.ref a∧Qa H1 a∧ty σ H1 fun y H2=>∃b kvs more,y=.ref b∧H2 a=some (.dT kvs)∧Rd H2 b (.dT more)∧a≠b∧kvs≠[]∧kvs.length+more.length≤sizeLine∧Q .jl (upd H2 a (.dT (putAll kvs more)))
def Oq(td ty:TE):TE:=fun σ H Q=>td σ H fun x H1=>∃a,x=.ref a∧Qa H1 a∧ty σ H1 fun y H2=>∃b kvs more,y=.ref b∧H2 a=some (.dK kvs)∧Rd H2 b (.dK more)∧a≠b∧kvs.length+more.length≤sizeLine∧Q .jl (upd H2 a (.dK (putAll kvs more)))
def Ot(td ty:TE):TE:=fun σ H Q=>td σ H fun x H1=>∃a,x=.ref a∧Qa H1 a∧ty σ H1 fun y H2=>∃b kvs k v,y=.ref b∧H2 a=some (.dT kvs)∧H2 b=some (.tup (k.map kV))∧iN kvs k=some v∧Q v (upd H2 a (.dT (jP kvs k)))
section
variable{X:Cx}{o e f:Expr}{apos kO:Pos}{td ty tx:TE}
theorem Jz(hu:X.A.units+1<cLine)(ho:PE X o td)(he:PE X e ty)(m:M1 X o "update" apos e kO):PE X (.Call (.Attribute o "update" apos) [e] [] kO) (Oo td ty):=by
 intro c_ s σ H Q I h
 refine wpAny_Call_method m.base m.jI m.line abC abW PySem.F.type_dict_update (iS (ho c_ s σ H _ I h) fun u s1 ⟨x,H1,I1,rx,a,ex,d,q1⟩=>?_)
 subst ex
 obtain rfl:u=Value.ref a:=rx
 obtain⟨t1,t2,_⟩:=ze I1 d
 refine⟨t1,t2,?_⟩
 rw[m.trees]
 refine abd rfl (abp (abb (iS (he c_ s1 σ H1 _ I1 q1) fun iv s2 ⟨y,H2,I2,ry,b,kvs,more,ey,ha,hb,ne,h0,hz,q2⟩=>abw ?_)))
 subst ey
 obtain rfl:iv=Value.ref b:=ry
 exact Oj hu I2 ha hb ne h0 hz fun s3 I3=>⟨.jl,_,I3,rfl,q2⟩
theorem JA(ho:PE X o td)(he:PE X e ty)(m:M1 X o "update" apos e kO):PE X (.Call (.Attribute o "update" apos) [e] [] kO) (Oq td ty):=by
 intro c_ s σ H Q I h
 refine wpAny_Call_method m.base m.jI m.line abC abW PySem.F.type_dict_update (iS (ho c_ s σ H _ I h) fun u s1 ⟨x,H1,I1,rx,a,ex,d,q1⟩=>?_)
 subst ex
 obtain rfl:u=Value.ref a:=rx
 obtain⟨t1,t2,_⟩:=ze I1 d
 refine⟨t1,t2,?_⟩
 rw[m.trees]
 refine abd rfl (abp (abb (iS (he c_ s1 σ H1 _ I1 q1) fun iv s2 ⟨y,H2,I2,ry,b,kvs,more,ey,ha,hb,ne,hz,q2⟩=>abw ?_)))
 subst ey
 obtain rfl:iv=Value.ref b:=ry
 exact Ol I2 ha hb ne hz fun s3 I3=>⟨.jl,_,I3,rfl,q2⟩
theorem JB(hu:X.A.units+1<cLine)(ho:PE X o td)(he:PE X e ty)(m:M1 X o "pop" apos e kO):PE X (.Call (.Attribute o "pop" apos) [e] [] kO) (Ot td ty):=by
 intro c_ s σ H Q I h
 refine wpAny_Call_method m.base m.jI m.line abC ab8 PySem.F.type_dict_pop (iS (ho c_ s σ H _ I h) fun u s1 ⟨x,H1,I1,rx,a,ex,d,q1⟩=>?_)
 subst ex
 obtain rfl:u=Value.ref a:=rx
 obtain⟨t1,t2,_⟩:=ze I1 d
 refine⟨t1,t2,?_⟩
 rw[m.trees]
 refine abd rfl (abp (abb (iS (he c_ s1 σ H1 _ I1 q1) fun iv s2 ⟨y,H2,I2,ry,b,kvs,k,v,ey,ha,hb,l,q2⟩=>abw ?_)))
 subst ey
 obtain rfl:iv=Value.ref b:=ry
 exact Om hu I2 ha hb l fun w' s3 I3 Ag=>⟨v,_,I3,Ag,q2⟩
theorem Hy{a:Expr}{ta:TE}(ha:PE X a ta)(he:∀whole,isTrue a X.env whole=(do let v ←whole;standAt a.pos;holding [v] (truthy v))) :
  PT X a (fun σ H Q=>ta σ H fun x H'=>∃p kvs,x=.ref p∧H' p=some (.dT kvs)∧Q (!kvs.isEmpty) H'):=by
 intro c_ s σ H Q I h
 refine isTrue_plain (iS (ha c_ s σ H _ I h) fun v s1 ⟨x,H1,I1,r1,p,kvs,ex,hp,q⟩=>?_) (he _)
 subst ex
 obtain rfl:v=Value.ref p:=r1
 obtain⟨lo,hz,es,ep,raw,sz,_⟩:=zq (I1.iG p _ hp)
 have hs:sizeLine=16777216:=sizeLine_eq
 refine Fv lo raw (by omega) ?_
 have e:((es.size:Int) != 0)=!kvs.isEmpty:=by rw[sz];cases kvs<;>simp<;>omega
 rw[e]
 exact⟨H1,I1.tok _,q⟩
end
theorem Hz:bootBuiltins "enumerate"=some (.type "enumerate"):=by decide+kernel
section
variable{X:Cx}{c_:Qqz}{σ:St}{H:Hp}{s:Shared}{h':Heap}
theorem Inv.LP{t':Nat}{a b:Addr}(I:Inv X c_ σ H s)(k:∀c o,c≠a→c≠b→s.heap.get? c=some o→h'.get? c=some o)(fa:qb X c_ H a)(fb:qb X c_ H b)
  (ha:∃o,h'.get? a=some o) (hb:∃o,h'.get? b=some o):Inv X c_ σ H {s with heap:=h',toks:=t'}:=by
 obtain⟨a0,a1,a2,a3,a4,a5⟩:=fa
 obtain⟨b0,b1,b2,b3,b4,b5⟩:=fb
 have na:∀c u,H c=some u→c≠a:=fun c u e z=>by rw[z,a0] at e;cases e
 have nb:∀c u,H c=some u→c≠b:=fun c u e z=>by rw[z,b0] at e;cases e
 have out:∀c,c∉[a,b]→c≠a∧c≠b:=fun c hc=>⟨fun z=>hc (by simp[z]),fun z=>hc (by simp[z])⟩
 refine I.step (g':=s.gens) (d':=s.drawn) (ch:=[a,b]) (fun c hc=>?_) (fun c o _ _ hc e _=>k c o (out c hc).1 (out c hc).2 e) (fun c o _ _ hc e _=>⟨o.slots,k c o (out c hc).1 (out c hc).2 e⟩) (fun _ _ _ _ n=>n)
  (fun c o hc e=>⟨o,k c o (out c hc).1 (out c hc).2 e⟩) (fun _ _ e=>e) (fun _ _ _ e=>e) (fun c ps e=>⟨#[],by rw[e];simp⟩) (fun m hm=>?_) (fun c u e=>?_) I.bare
 ·rcases Wg.mp hc with z|z
  ·rw[z];exact⟨a3,a1,a4,a5⟩
  ·rw[List.mem_singleton.mp z];exact⟨b3,b1,b4,b5⟩
 ·obtain⟨o,es,ep,ho,r⟩:=hm
  exact⟨o,es,ep,k _ o (abF a1) (abF b1) ho,r⟩
 ·refine(I.iG c u e).y4 (fun d v hd q=>k d v ?_ ?_ q) (fun _ q=>q) fun _ _ q=>q
  ·rcases hd with z|z
   ·rw[z];exact na c u e
   ·exact na d _ z
  ·rcases hd with z|z
   ·rw[z];exact nb c u e
   ·exact nb d _ z
end
def Rh(t:TT):TT:=fun σ H Q=>∃M:Bool→Hp→Prop,t σ H M∧∀b H',M b H'→Q b H'
theorem JC{X:Cx}{e:Expr}{t:TT}(h:PT X e t):PT X e (Rh t):=fun c_ s σ H Q I ⟨M,h1,h2⟩=>iS (h c_ s σ H M I h1) fun b s' ⟨H',I',q⟩=>⟨H',I',h2 b H' q⟩
noncomputable def Ri(K:Qqy)(a:Addr):It:=
 ⟨fun i H=>∃xs x,gF K H a xs∧xs[i]?=some x,fun i H x H'=>∃t y,H t=none∧x=.ref t∧H'=upd H t (.tup [.int i,y])∧∀xs,gF K H a xs→xs[i]?=some y,fun i H=>∃xs,gF K H a xs∧xs.length≤i⟩
theorem HA{P:Program}{w:World}{K:Qqy}{elts:List Expr}{x1}{pos:Pos}(a e it:Addr)(sJ:e≠it):Turn P w K (.Tuple elts x1 pos) (Ri K a) [e,it] e (fun i h=>(∃old,IsEnum h e it ((i:Nat):Int) old)∧h.IsListIter it a i) where
 mem:=by simp
 obj:=fun i h ⟨⟨old,E1⟩,Af⟩ b hb=>by
  rcases Wg.mp hb with z|z
  ·subst z;exact⟨_,E1,fun v z=>by have z':Data.fields _=Data.cell v:=z;cases z'⟩
  ·rw[List.mem_singleton.mp z]
   obtain⟨o,ho,c,d⟩:=Af
   exact⟨o,ho,fun v z=>by rw[d] at z;cases z⟩
 keep:=fun i h h' ⟨⟨old,E1⟩,Af⟩ k=>⟨⟨old,k e (by simp) _ E1⟩,Af.at fun o ho=>k it (by simp) o ho⟩
 item:=by
  intro X hP hw hK hc i c_ s σ H E I hf ⟨⟨old,E1⟩,Af⟩ hg
  subst hP hw hK
  obtain⟨xs,x,hq,hx⟩:=hg
  obtain⟨gK,rv,p,hz⟩:=I.list hq
  obtain⟨u,hu,ru⟩:=rv.get hx
  have fe:=hf e (by simp)
  have fi:=hf it (by simp)
  have Wc:e<s.heap.objs.size:=aar E1
  refine wpAny_pyNext_enum_item E1 Af p.isList (x:=u) (by simpa using hu) sJ fun h₁ Kw Wd ht₁ hz₁ hk₁=>?_
  refine⟨_,rfl,?_⟩
  refine wpAny_letOwnedTupleGo_enum Kw fun h₂ Y8 Sm=>?_
  replace Sm:Heap.SameBut e h₁ h₂:=Sm
  have ht₂:h₂.get? s.heap.objs.size=some {cls:=.type "tuple",data:=.seq #[.int i s.toks,u]}:=(Sm.2 _ (ab5 Wc)).trans ht₁
  have Sn:h₂.IsListIter it a (i+1):=Wd.extBut Sm.extBut (abF sJ)
  have hfr:H s.heap.objs.size=none:=I.iG.fresh (Vx _)
  have rT:Vals [.int i,x] [.int i s.toks,u]:=.cons ⟨s.toks,rfl⟩ (.cons ru .nil)
  have I1:Inv X c_ σ (upd H s.heap.objs.size (.tup [.int i,x])) {s with heap:=s.heap.push {cls:=.type "tuple",data:=.seq #[.int i s.toks,u]},toks:=s.toks}:=
   I.laid (t':=s.toks) (fun b u e=>YH _ e) (Vx _) ⟨L2.jI,_,rT,⟨_,aax _ rfl,rfl,_,rfl⟩⟩
  have up:∀b,qb X c_ H b→b<s.heap.objs.size→qb X c_ (upd H s.heap.objs.size (.tup [.int i,x])) b:=fun b f hb=>by
   obtain⟨f0,r⟩:=f
   exact⟨by rw[e_ (aaN hb)];exact f0,r⟩
  have Nj:it<s.heap.objs.size:=by obtain⟨o,ho,_⟩:=id Af;exact aar ho
  obtain⟨oi,Uh,_⟩:=id Sn
  have I2:=I1.LP (h':=h₂) (t':=s.toks+1) (a:=e) (b:=it) (fun c o h1 h2 hc=>?_) (up e fe Wc) (up it fi Nj) ⟨_,Y8⟩ ⟨oi,Uh⟩
  ·refine⟨.ref s.heap.objs.size,_,I2,rfl,⟨_,x,hfr,rfl,rfl,fun ys hy=>by rw[I.pq hy hq];exact hx⟩,⟨⟨u,?_⟩,Sn⟩,fun b hb=>?_⟩
   ·have:((i+1:Nat):Int)=(i:Int)+1:=by push_cast;rfl
    rw[this];exact Y8
   ·rcases Wg.mp hb with z|z
    ·subst z;exact(up _ fe Wc).1
    ·rw[List.mem_singleton.mp z];exact(up it fi Nj).1
  ·by_cases Y9:c=s.heap.objs.size
   ·subst Y9
    have:(s.heap.push {cls:=.type "tuple",data:=.seq #[.int i s.toks,u]}).get? s.heap.objs.size=some {cls:=.type "tuple",data:=.seq #[.int i s.toks,u]}:=aax _ rfl
    rw[this] at hc;cases hc
    exact ht₂
   ·have BL:s.heap.get? c=some o:=(Heap.get?_push_cases hc).elim (fun z=>absurd z.1 Y9) id
    exact(Sm.2 c h1).trans (hk₁ c o h1 h2 BL)
 done:=by
  intro X hP hw hK hc i c_ s σ H E I hf ⟨⟨old,E1⟩,Af⟩ hg
  subst hP hw hK
  obtain⟨xs,hq,hx⟩:=hg
  obtain⟨gK,rv,p,hz⟩:=I.list hq
  obtain⟨f0,f1,f2,f3,f4,f5⟩:=hf it (by simp)
  have hl:=rv.length
  exact wpAny_pyNext_enum_end (I.ok.hd hc) E1 Af p.isList (Array.getElem?_eq_none (by simp;omega)) fun h' eb=>⟨rfl,I.turned (t':=s.toks) (fun b o hb e=>eb b o hb e) f0 f1 f3 f4 f5⟩
 self:=fun _ _ _ _ _ ⟨⟨old,E1⟩,Af⟩ h=>wpAny_pyIter_enum E1 h
def Rj(K:Qqy)(ta:TA):TI:=fun σ H R=>ta σ H fun vs H1=>∃a,vs=[.ref a]∧(∃xs,gF K H1 a xs)∧R (Ri K a) H1
section
variable{X:Cx}
theorem LQ{a:Expr}{ta:TA}{p pos:Pos}{elts:List Expr}{x1}{Pg:Pos}(hg:Gl X "enumerate")(hm:X.mg "enumerate"=none)(ha:PA X [a] ta)(hs:starEach [a] X.env=[(false,eval a X.env)]:=by rfl):PI X (.Tuple elts x1 Pg) (.Call (.Name "enumerate" p) [a] [] pos) (Rj X.K ta):=by
 intro c_ s σ H R I h
 refine Call_ (oX I hg hm Hz (aaW (iS (ha pos c_ s σ H _ I h) fun us s1 ⟨vs,H1,I1,r1,q1⟩=>?_) hs rfl))
 obtain⟨l,rfl,⟨xs,hq⟩,q⟩:=q1
 obtain⟨u,rfl,ru⟩:=vals1 r1
 cases (show u=Value.ref l from ru)
 obtain⟨gK,rv,pp,hz⟩:=I1.list hq
 refine call_enumerate_list pp.isList fun h' he hit hsz hk=>?_
 have I2:Inv X c_ σ H1 {s1 with heap:=h'}:=I1.kept (t':=s1.toks) hk
 refine wpAny_pyIter_enum he ?_
 refine⟨s1.heap.objs.size+1,[s1.heap.objs.size+1,s1.heap.objs.size],_,_,H1,rfl,I2,HA l (s1.heap.objs.size+1) s1.heap.objs.size (Nat.succ_ne_self _),⟨⟨_,he⟩,hit⟩,fun b hb=>?_,q⟩
 rcases Wg.mp hb with z|z
 ·subst z;exact I1.yu (by omega) (I1.iG.fresh (by omega))
 ·rw[List.mem_singleton.mp z];exact I1.yu (Vx _) (I1.iG.fresh (Vx _))
theorem JD{K:PySem.W.Frag}{a:Addr}{xs:List V}{g:TG}{tb:TS}{D:Ends}{σ:St}{H:Hp}(Pv:Nat→St→Hp→Prop)(h0:Pv 0 σ H)(hl:∀i σ H,i≤xs.length→Pv i σ H→gF K H a xs)
  (hs:∀i x t σ H,xs[i]?=some x→Pv i σ H→H t=none→g (.ref t) σ (upd H t (.tup [.int i,x])) fun σ2 H2=>tb {D with nx:=Pv (i+1),ct:=Pv (i+1),bk:=D.nx} σ2 H2) (hd:∀σ H,Pv xs.length σ H→D.nx σ H) :
  ∃W:Nat→Nat→St→Hp→Prop,(∃m,W 0 m σ H)∧∀i m σ H,W i m σ H→
   ((Ri K a).stop i H∧D.nx σ H)∨((Ri K a).go i H∧∃N:St→Hp→Prop,(∀σ' H',N σ' H'→∃m',m'<m∧W (i+1) m' σ' H')∧∀x H',(Ri K a).IE i H x H'→g x σ H' fun σ2 H2=>tb {D with nx:=N,ct:=N,bk:=D.nx} σ2 H2):=by
 refine⟨fun i m σ H=>m=xs.length-i∧i≤xs.length∧Pv i σ H,⟨xs.length,by simp,aaI _,h0⟩,?_⟩
 rintro i m σ H ⟨rfl,hi,p⟩
 have q:=hl i σ H hi p
 by_cases kB:i<xs.length
 ·refine .inr ⟨⟨xs,xs[i],q,Su kB⟩,Pv (i+1),fun σ' H' p'=>⟨xs.length-(i+1),by omega,rfl,kB,p'⟩,fun x H' y=>?_⟩
  obtain⟨t,z,ht,rfl,rfl,y⟩:=y
  exact hs i z t σ _ (y xs q) p ht
 ·have e:i=xs.length:=by omega
  subst e
  exact .inl ⟨⟨xs,q,Vx _⟩,hd σ H p⟩
end
structure DF(K:Qqy)(mg:Qqx)(x:Str)(st:Stmt)(a:Addr)(d:FuncData)(ps:List Str):Prop where
 f:xw K x x st a d
 b:Binds K d ps []
 m:mg x=some (.ref a)
structure DM(K:Qqy)(C:Addr)(x q:Str)(st:Stmt)(a:Addr)(d:FuncData)(ps:List Str):Prop where
 f:xw K x q st a d
 b:Binds K d ps []
 t:Meth K C x a
def FI(K:Qqy)(x:Str)(st:Stmt)(f:Addr):Prop:=W.nsIn K mainGlobals x=some (some (.ref f))∧∃d,xw K x x st f d
def MI(K:Qqy)(C:Addr)(x q:Str)(st:Stmt)(f:Addr):Prop:=Meth K C x f∧∃d,xw K x q st f d
section
variable{K:Qqy}{x q:Str}{st:Stmt}{f C:Addr}{oc kV doc pm jm ct:Value}{od an:Option Addr}{Iq:Array (Option Value)}
theorem Rl(a:W.nsIn K mainGlobals x=some (some (.ref f)))(l:K.lookup f=some ⟨oc,od,.func (W.fnOf x x (ox st) (kT st) (gb st) .none kV doc pm an jm ct),Iq⟩)(c:W.codeIn K jm x=true)(k:W.keepIn K (.ref f)=true):FI K x st f:=⟨a,_,I_ l c k⟩
theorem Rm(a:W.findIn K (.ref C) x=some (some (.ref f)))(i:W.isFn K (.ref f)=true)(l:K.lookup f=some ⟨oc,od,.func (W.fnOf x q (ox st) (kT st) (gb st) .none kV doc pm an jm ct),Iq⟩)(c:W.codeIn K jm q=true)(k:W.keepIn K (.ref f)=true):MI K C x q st f:=⟨⟨a,i,k⟩,_,I_ l c k⟩
end
theorem JE{X:Cx}{st:Stmt}{t:TS}(h:PS X st t):PS X st (fun D σ H=>∃d o u,H d=some (.nc o u)∧zo X d∧t D σ (upd H d u)):=fun c_ s σ H D I ⟨d,o,u,hd,nf,q⟩=>h c_ s σ _ D (I.wq hd nf) q
noncomputable def YL(N P:List Str)(sc:Scope):Bool:=decide (sc.kind=.function)&&!sc.isCoroutine&&!sc.isGenerator&&decide N.Nodup&&decide (N.take P.length=P)&&P.all (fun x=>decide (sc.names.lookup x=some .local)||decide (sc.names.lookup x=some .cell))&&sc.names.all (fun y=>decide (y.2≠.free))
theorem mw{N P:List Str}{sc:Scope}(h:YL N P sc=true:=by decide+kernel):gw N P sc:=by
 unfold YL at h
 simp only [aaT,abV,Bool.not_eq_true',abr,abH] at h
 obtain⟨⟨⟨⟨⟨⟨a,b⟩,c⟩,d⟩,e⟩,f⟩,g⟩:=h
 exact⟨a,b,c,d,e,f,g⟩
section
variable{X:Cx}{x q m:Str}{st:Stmt}{f C:Addr}{fd:FuncData}{ps:List Str}{sp:Sp}{k j:Nat}{e o:Expr}{es:List Expr}{t:TA}{ta:TE}{p pos apos:Pos}{E:XK}
theorem nE(D:DF X.K X.mg x st f fd ps)(F:ij X.prog X.w X.K X.mg X.base l5 k f fd ps sp)(hr:ko j X.A)(ha:PA X (e::es) t)(hk:k≤j:=by decide)(hg:Gl X x:=by rfl)(FZ:(x ==("__debug__":Str))=false:=by decide)(he:starEach (e::es) X.env=(false,eval e X.env)::starEach es X.env:=by rfl)(oh:(backTo pos (starEach es X.env)).any (·.1)=false:=by rfl):PE X (.Call (.Name x p) (e::es) [] pos) (IJ sp [] E0 t):=uN F (hr.mono hk) hg D.m D.f.kp D.b .nil oy ha FZ he oh
theorem Vw(b:Bx X E)(D:DF X.K X.mg x st f fd ps)(F:ij X.prog X.w X.K X.mg X.base (tI X.prog X.w) k f fd ps sp)(hr:ko j X.A)(ha:PA X (e::es) t)(hk:k≤j:=by decide)(hg:Gl X x:=by rfl)(FZ:(x ==("__debug__":Str))=false:=by decide)(he:starEach (e::es) X.env=(false,eval e X.env)::starEach es X.env:=by rfl)(oh:(backTo pos (starEach es X.env)).any (·.1)=false:=by rfl):PE X (.Call (.Name x p) (e::es) [] pos) (IJ sp [] E t):=uN F (hr.mono hk) hg D.m D.f.kp D.b .nil (MZ b) ha FZ he oh
theorem yx{pl:Sem Bool}(h:PE X o ta)(c:EY X.K C)(D:DM X.K C m q st f fd ps)(F:ij X.prog X.w X.K X.mg X.base l5 k f fd ps sp)(hr:ko j X.A)(ha:PA X (e::es) t)(hk:k≤j:=by decide)(xc:starEach (e::es) X.env=(false,eval e X.env)::starEach es X.env:=by rfl)(oh:(backTo pos (starEach es X.env)).any (·.1)=false:=by rfl)
 (ht:eval (.Call (.Attribute o m apos) (e::es) [] pos) X.env=(do
  let ov ←eval o X.env
  standAt apos.atName
  let (f,first) ←holding [ov] (getMethod ov m pl)
  callWith pos f first (backTo pos (starEach (e::es) X.env)) (backToKw pos (keywordEach [] X.env))):=by rfl):PE X (.Call (.Attribute o m apos) (e::es) [] pos) (Gs C m sp [] E0 ta t):=Gu h c D.t F (hr.mono hk) D.b .nil oy ha xc oh ht
theorem AJ(b:Bx X E){pl:Sem Bool}(h:PE X o ta)(c:EY X.K C)(D:DM X.K C m q st f fd ps)(F:ij X.prog X.w X.K X.mg X.base (tI X.prog X.w) k f fd ps sp)(hr:ko j X.A)(ha:PA X (e::es) t)(hk:k≤j:=by decide)(xc:starEach (e::es) X.env=(false,eval e X.env)::starEach es X.env:=by rfl)(oh:(backTo pos (starEach es X.env)).any (·.1)=false:=by rfl)
 (ht:eval (.Call (.Attribute o m apos) (e::es) [] pos) X.env=(do
  let ov ←eval o X.env
  standAt apos.atName
  let (f,first) ←holding [ov] (getMethod ov m pl)
  callWith pos f first (backTo pos (starEach (e::es) X.env)) (backToKw pos (keywordEach [] X.env))):=by rfl):PE X (.Call (.Attribute o m apos) (e::es) [] pos) (Gs C m sp [] E ta t):=Gu h c D.t F (hr.mono hk) D.b .nil (MZ b) ha xc oh ht
end
section
variable{P:Program}{w:World}{K:Qqy}{mg:Qqx}{base:Heap}
theorem xw.p_{x qual:Str}{st:Stmt}{f:Addr}{fd:FuncData}{N ps:List Str}{k:Nat}{sp:Sp}(F:xw K x qual st f fd)(S:gw N ps (gb st))(vP:∀(jm:Value)(A:Around)(outer:List Env)(s:Shared)(H:Hp)(vs:List V)(Q:VK)(E:XK),ko k (A.deeper (envOfC qual (gb st) s.heap.objs.size f jm))→sp vs H Q E→∃t,EW (wa l5 P w K mg base N qual (gb st) f jm A outer s H E).QL (kT st) t∧t {nx:=fun _ H'=>Q .jl H',rt:=Q} (start N vs) H)(len:∀vs H Q E,sp vs H Q E→vs.length=ps.length:=by intro _ _ _ _ h;repeat (first|(obtain⟨rfl,_⟩:=h;rfl)|obtain⟨_,h⟩:=h)):ij P w K mg base l5 (k+1) f fd ps sp:=F.ok S len vP
theorem xw.ra{x qual:Str}{st:Stmt}{f:Addr}{fd:FuncData}{N ps:List Str}{k:Nat}{sp:Sp}(F:xw K x qual st f fd)(S:gw N ps (gb st))(vP:∀(jm:Value)(A:Around)(outer:List Env)(s:Shared)(H:Hp)(vs:List V)(Q:VK)(E:XK),ko k (A.deeper (envOfC qual (gb st) s.heap.objs.size f jm))→sp vs H Q E→∃t,EW (wa (tI P w) P w K mg base N qual (gb st) f jm A outer s H E) (kT st) t∧t {nx:=fun _ H'=>Q .jl H',rt:=Q} (start N vs) H)(len:∀vs H Q E,sp vs H Q E→vs.length=ps.length:=by intro _ _ _ _ h;repeat (first|(obtain⟨rfl,_⟩:=h;rfl)|obtain⟨_,h⟩:=h)):ij P w K mg base (tI P w) (k+1) f fd ps sp:=F.ok1 S len vP
end
section
variable{X:Cx}{pos:Pos}
theorem lu(i:Nat){x:Str}{e:Expr}{te:TE}{pos':Pos}{N ps:List Str}{sc:Scope}(S:gw N ps sc)(he:PE X e te)(hN:X.N=N:=by rfl)(hi:X.N[i]?=some x:=by rfl)(hx:X.env.scope.names.lookup x=some .local:=by rfl)(hs:swapsWith e (some (.Name x pos')) pos.line X.env=pure false:=by rfl):PS X (.Assign [.Name x pos'] e pos) (Ha te (k7 i)):=ly (hN▸S.nd) hi (.inl hx) he hs (.inr hx)
theorem rf(i:Nat){x:Str}{N ps:List Str}{sc:Scope}(S:gw N ps sc)(hN:X.N=N:=by rfl)(hi:X.N[i]?=some x:=by rfl)(hx:X.env.scope.names.lookup x=some .local:=by rfl):PG X (.Name x pos) (k7 i):=iz (hN▸S.nd) hi (.inl hx) (.inr hx)
end
section
variable{K:Qqy}
theorem xw.bd{x qual:Str}{st:Stmt}{f:Addr}{fd:FuncData}{ps:List Str}(F:xw K x qual st f fd)(h:∀(kV doc pm:Value)(an:Option Addr)(jm ct:Value)(us:List Value),us.length=ps.length→bindArgs (W.fnOf x qual (ox st) (kT st) (gb st) .none kV doc pm an jm ct) ⟨us,[]⟩=pure (ps.zip us):=by intro _ _ _ _ _ _ us hl;(repeat (rcases us with _|⟨_,us⟩<;>first|(simp at hl;done)|skip));rfl):Binds K fd ps []:=F.binds h
end
section
variable{X:Cx}{a b:Expr}{ta tb:TE}{pos:Pos}{k:Nat}
theorem rD(ha:PE X a ta)(hb:PE X b tb)(hs:Gx b:=by exact fun _ _=>rfl):PE X (.Subscript a b pos) (QU (Q2 X.K) ta tb):=jW kC ha hb hs
theorem zt(hr:ko k X.A)(ha:PE X a ta)(hb:PE X b tb)(hs:N6 b:=by exact fun _ _=>rfl):PE X (.Subscript a b pos) (MX ta tb):=LB (iV hr) ha hb hs
theorem AF(h:PE X a ta)(e:ta=tb:=by(try simp only [kD]);rfl):∃t,PE X a t∧t=tb:=⟨_,h,e⟩
end
end L2
namespace K01
section
variable{α:Type}[DecidableEq α]
noncomputable def lcs:List α→List α→Nat
 | [],_=>0
 | _::_,[]=>0
 | a::as,b::bs=>if b=a then lcs as bs+1 else max (lcs as (b::bs)) (lcs (a::as) bs)
termination_by x y=>x.length+y.length
def nK(x y:List α)(n:Nat):Prop:=(∀s:List α,s.Sublist x→s.Sublist y→s.length≤n)∧∃s:List α,s.Sublist x∧s.Sublist y∧s.length=n
theorem nK.uniq{x y:List α}{n m:Nat}(h:nK x y n)(g:nK x y m):n=m:=by
 obtain⟨h1,s,a,b,e⟩:=h
 obtain⟨g1,t,c,d,f⟩:=g
 have:=g1 s a b
 have:=h1 t c d
 omega
theorem nK.DV(y:List α):nK [] y 0:=⟨fun s a _=>by have:=a.length_le;simpa using this,[],aaC _,List.nil_sublist _,rfl⟩
theorem nK.Bq(x:List α):nK x [] 0:=⟨fun s _ b=>by have:=b.length_le;simpa using this,[],List.nil_sublist _,aaC _,rfl⟩
theorem lD{s as:List α}{a:α}(h:s.Sublist (a::as)):s.Sublist as∨∃t,s=a::t∧t.Sublist as:=by
 cases h with
 | cons _ h=>exact .inl h
 | cons_cons _ h=>exact .inr ⟨_,rfl,h⟩
theorem nK.eq{as bs:List α}{a:α}{n:Nat}(h:nK as bs n):nK (a::as) (a::bs) (n+1):=by
 obtain⟨h1,s,x,y,e⟩:=h
 refine⟨fun t c d=>?_,a::s,x.cons_cons a,y.cons_cons a,by rw[aaf,e]⟩
 rcases lD c with c2|⟨u,e2,c2⟩
 ·rcases lD d with d2|⟨v,e3,d2⟩
  ·have:=h1 t c2 d2;omega
  ·subst e3
   have:=h1 v ((abt a v).trans c2) d2
   rw[aaf];omega
 ·have d':u.Sublist bs:=by
   subst e2
   rcases lD d with d2|⟨v,e',d2⟩
   ·exact(abt a u).trans d2
   ·cases e';exact d2
  have:=h1 u c2 d'
  subst e2
  rw[aaf];omega
theorem nK.ne{as bs:List α}{a b:α}{n m:Nat}(G3:a≠b)(h:nK as (b::bs) n)(g:nK (a::as) bs m):nK (a::as) (b::bs) (max n m):=by
 obtain⟨h1,s,x,y,e⟩:=h
 obtain⟨g1,s',x',y',e'⟩:=g
 refine⟨fun t c d=>?_,?_⟩
 ·rcases lD c with c'|⟨u,rfl,_⟩
  ·have:=h1 t c' d;omega
  ·rcases lD d with d'|⟨v,e,_⟩
   ·have:=g1 _ c d';omega
   ·cases e;exact absurd rfl G3
 ·by_cases Ui:m≤n
  ·exact⟨s,x.cons a,y,by omega⟩
  ·exact⟨s',x',y'.cons b,by omega⟩
theorem jZ:∀x y:List α,nK x y (lcs x y)
 | [],y=>by rw[lcs];exact .DV y
 | a::as,[]=>by rw[lcs];exact .Bq _
 | a::as,b::bs=>by
  rw[lcs]
  by_cases h:b=a
  ·rw[aaq h];subst h;exact(jZ as bs).eq
  ·rw[aal h];exact .ne (fun e=>h e.symm) (jZ as (b::bs)) (jZ (a::as) bs)
termination_by x y=>x.length+y.length
theorem LR(x:List α):lcs x []=0:=(jZ x []).uniq (.Bq x)
theorem GB(y:List α):lcs [] y=0:=(jZ [] y).uniq (.DV y)
theorem zu{x x' y y':List α}(h:x.Sublist x')(g:y.Sublist y'):lcs x y≤lcs x' y':=by
 obtain⟨_,s,a,b,e⟩:=jZ x y
 rw[←e]
 exact(jZ x' y').1 s (a.trans h) (b.trans g)
theorem DW(x y:List α):lcs x y≤x.length:=by
 obtain⟨_,s,a,b,e⟩:=jZ x y
 rw[←e];exact a.length_le
noncomputable def i9(a:α)(new:List α)(j:Nat):Option Nat:=((new.drop j).findIdx? (·=a)).map (j+·)
noncomputable def pE(new:List α):Nat→List α→Nat→List (Nat×Nat)
 | _,[],_=>[]
 | i,a::as,j=>match i9 a new j with
  | none=>pE new (i+1) as j
  | some k=>if lcs as (new.drop (k+1))+1=lcs (a::as) (new.drop j) then(i,k)::pE new (i+1) as (k+1) else pE new (i+1) as j
noncomputable def kept(old new:List α):List (Nat×Nat):=pE new 0 old 0
theorem kr{a:α}{new:List α}{j k:Nat}(h:i9 a new j=some k):j≤k∧new[k]?=some a∧∀l,j≤l→l<k→new[l]?≠some a:=by
 unfold i9 at h
 cases e:(new.drop j).findIdx? (·=a) with
 | none=>rw[e] at h;cases h
 | some d=>
  rw[e] at h
  have h:j+d=k:=aaz h
  subst h
  obtain⟨hd,h1,h2⟩:=List.findIdx?_eq_some_iff_getElem.mp e
  have h1:(new.drop j)[d]=a:=by simpa using h1
  refine⟨Nat.le_add_right _ _,?_,fun l hl hk q=>?_⟩
  ·rw[←ab3,Su hd,h1]
  ·have:=h2 (l-j) (by omega)
   have hq:(new.drop j)[l-j]?=some a:=by rw[ab3,show j+(l-j)=l by omega];exact q
   obtain⟨hh,he⟩:=List.getElem?_eq_some_iff.mp hq
   simp[he] at this
theorem nM{a:α}{new:List α}{j:Nat}(h:i9 a new j=none):∀l,j≤l→new[l]?≠some a:=by
 unfold i9 at h
 cases e:(new.drop j).findIdx? (·=a) with
 | some d=>rw[e] at h;cases h
 | none=>
  intro l hl q
  have hq:(new.drop j)[l-j]?=some a:=by rw[ab3,show j+(l-j)=l by omega];exact q
  have:=List.findIdx?_eq_none_iff.mp e a (Vs hq)
  simp at this
theorem JF{a:α}{as y:List α}(h:a∉y):lcs (a::as) y=lcs as y:=by
 refine(jZ (a::as) y).uniq ⟨fun s c d=>?_,?_⟩
 ·rcases lD c with c|⟨t,rfl,c⟩
  ·exact(jZ as y).1 s c d
  ·exact absurd (d.subset aav) h
 ·obtain⟨_,s,c,d,e⟩:=jZ as y
  exact⟨s,c.cons a,d,e⟩
theorem qg{new:List α}{k:Nat}{a:α}(h:new[k]?=some a):new.drop k=a::new.drop (k+1):=by
 obtain⟨hk,e⟩:=List.getElem?_eq_some_iff.mp h
 rw[aaP hk,e]
theorem zv{new:List α}{j k:Nat}(h:j≤k):(new.drop k).Sublist (new.drop j):=by
 have:new.drop k=(new.drop j).drop (k-j):=by rw[List.drop_drop];congr 1;omega
 rw[this];exact List.drop_sublist _ _
theorem B6{a:α}{as new:List α}{j l:Nat}(hl:j≤l)(h:new[l]?=some a):lcs as (new.drop (l+1))+1≤lcs (a::as) (new.drop j):=by
 have:lcs (a::as) (new.drop l)≤lcs (a::as) (new.drop j):=zu (aaC _) (zv hl)
 rw[qg h,lcs,aaq rfl] at this
 exact this
theorem zw{a:α}{as new:List α}{j k:Nat}(h:i9 a new j=some k)(sJ:lcs as (new.drop (k+1))+1≠lcs (a::as) (new.drop j)):lcs (a::as) (new.drop j)=lcs as (new.drop j):=by
 obtain⟨Pr,hk,MD⟩:=kr h
 have h1:=B6 (as:=as) Pr hk
 have h2:lcs as (new.drop j)≤lcs (a::as) (new.drop j):=zu (abt a as) (aaC _)
 obtain⟨hs,s,c,d,e⟩:=jZ (a::as) (new.drop j)
 rcases lD c with c2|⟨t,es,c2⟩
 ·have:=(jZ as (new.drop j)).1 s c2 d;omega
 ·exfalso
  subst es
  have key:∀(n:Nat)(j:Nat),k-j=n→j≤k→(∀l,j≤l→l<k→new[l]?≠some a)→(a::t).Sublist (new.drop j)→t.Sublist (new.drop (k+1)):=by
   intro n
   induction n with
   | zero=>
    intro j e1 e2 _ d
    have:j=k:=by omega
    subst this
    rw[qg hk] at d
    rcases lD d with d|⟨u,e,d⟩
    ·exact(abt a t).trans d
    ·cases e;exact d
   | succ n ih=>
    intro j e1 e2 hm d
    have hj:j<new.length:=by
     have:=(List.getElem?_eq_some_iff.mp hk).1;omega
    rw[aaP hj] at d
    rcases lD d with d|⟨u,e,_⟩
    ·exact ih (j+1) (by omega) (by omega) (fun l hl=>hm l (by omega)) d
    ·exfalso
     have e0:a=new[j]:=(List.cons.inj e).1
     exact hm j (Vx _) (by omega) (by rw[Su hj,←e0])
  have ht:=key _ j rfl Pr MD d
  have:=(jZ as (new.drop (k+1))).1 t c2 ht
  rw[aaf] at e
  omega
theorem HB{a:α}{as new:List α}{j:Nat}(h:i9 a new j=none):lcs (a::as) (new.drop j)=lcs as (new.drop j):=by
 refine JF fun m=>?_
 obtain⟨l,hl⟩:=aaL.mp m
 rw[ab3] at hl
 exact nM h (j+l) (Nat.le_add_right _ _) hl
theorem lE(new:List α):∀(old:List α)(i j:Nat),(pE new i old j).length=lcs old (new.drop j)
 | [],i,j=>by rw[pE,GB];rfl
 | a::as,i,j=>by
  unfold pE
  cases h:i9 a new j with
  | none=>simp only;rw[lE new as,HB h]
  | some k=>
   simp only
   by_cases hc:lcs as (new.drop (k+1))+1=lcs (a::as) (new.drop j)
   ·rw[aaq hc,aaf,lE new as];exact hc
   ·rw[aal hc,lE new as,zw h hc]
inductive Good(old new:List α):Nat→Nat→List (Nat×Nat)→Prop
 | nil (i j):Good old new i j []
 | cons {i j p q r} (h1:i≤p) (h2:j≤q) (a:α) (e1:old[p]?=some a) (e2:new[q]?=some a)
  (h3:∀l m,i≤l→l≤p→j≤m→(l<p∨m<q)→∀b,old[l]?=some b→new[m]?=some b→¬r.length≤lcs (old.drop (l+1)) (new.drop (m+1)))
  (t:Good old new (p+1) (q+1) r):Good old new i j ((p,q)::r)
theorem Good.back{old new:List α}{i j:Nat}{a:α}{r:List (Nat×Nat)}(ha:old[i]?=some a)(hl:r.length=lcs (old.drop (i+1)) (new.drop j))(hn:∀m,j≤m→new[m]?=some a→lcs (old.drop (i+1)) (new.drop (m+1))+1≠r.length∧lcs (old.drop (i+1)) (new.drop (m+1))+1≤r.length)
  (h:Good old new (i+1) j r):Good old new i j r:=by
 cases h with
 | nil=>exact .nil _ _
 | @cons _ _ p q r h1 h2 b e1 e2 h3 t=>
  refine .cons (by omega) h2 b e1 e2 (fun l m We KA hm kB c c1 c2 hle=>?_) t
  by_cases e:l=i
  ·subst e
   rw[ha] at c1
   cases c1
   have z:=hn m hm c2
   rw[aaf] at z
   omega
  ·exact h3 l m (by omega) KA hm kB c c1 c2 hle
theorem qh{old new:List α}:∀(rest:List α)(i j:Nat),old.drop i=rest→Good old new i j (pE new i rest j)
 | [],i,j,_=>by rw[pE];exact .nil _ _
 | a::as,i,j,e=>by
  have ha:old[i]?=some a:=by
   have:(old.drop i)[0]?=some a:=by rw[e];rfl
   rwa [ab3,Nat.add_zero] at this
  have e':old.drop (i+1)=as:=by
   have:=qg ha;rw[e] at this;exact(List.cons.inj this).2.symm
  have L:=lE new as (i+1) j
  unfold pE
  cases h:i9 a new j with
  | none=>
   simp only
   refine Good.back ha (by rw[L,e']) (fun m hm q=>absurd q (nM h m hm)) (qh as (i+1) j e')
  | some k=>
   obtain⟨Pr,hk,MD⟩:=kr h
   simp only
   by_cases hc:lcs as (new.drop (k+1))+1=lcs (a::as) (new.drop j)
   ·rw[aaq hc]
    refine .cons (Vx _) Pr a ha hk (fun l m We KA hm kB b c1 c2 _=>?_) (qh as (i+1) (k+1) e')
    have:l=i:=by omega
    subst this
    rw[ha] at c1
    cases c1
    exact MD m hm (by omega) c2
   ·rw[aal hc]
    have S:=zw h hc
    refine Good.back ha (by rw[L,e']) (fun m hm q=>?_) (qh as (i+1) j e')
    rw[L,e',←S]
    have h1:=B6 (as:=as) hm q
    refine⟨fun z=>?_,h1⟩
    have hkm:k≤m:=by
     rcases Nat.lt_or_ge m k with z'|z'
     ·exact absurd q (MD m hm z')
     ·exact z'
    have h2:lcs as (new.drop (m+1))≤lcs as (new.drop (k+1)):=zu (aaC _) (zv (by omega))
    have h3:=B6 (as:=as) Pr hk
    omega
theorem HC(old new:List α):Good old new 0 0 (kept old new):=qh old 0 0 rfl
theorem xy(old new:List α):(kept old new).length=lcs old new:=lE new old 0 0
noncomputable def pre(old new:List α)(i k:Nat):Nat:=lcs (old.take i) (new.take k)
noncomputable def wy(old new:List α)(i j:Nat):Nat:=lcs (old.drop i) (new.drop j)
theorem yS{old new:List α}{i j:Nat}(h:old.length≤i∨new.length≤j):wy old new i j=0:=by
 unfold wy
 rcases h with h|h
 ·rw[List.drop_eq_nil_of_le h,GB]
 ·rw[List.drop_eq_nil_of_le h,LR]
theorem LS{old new:List α}{i j:Nat}{a b:α}(ha:old[i]?=some a)(hb:new[j]?=some b) :
  wy old new i j=if b=a then wy old new (i+1) (j+1)+1 else max (wy old new (i+1) j) (wy old new i (j+1)):=by
 unfold wy
 rw[qg ha,qg hb,lcs,←qg ha,←qg hb]
end
end K01
namespace PM
open PySem
abbrev Nm:=Str×Nat
structure Ln where
 nm:Nm
 tx:Str
 up:Option Nm
 lo:Option Nm
 deriving DecidableEq
structure Pt where
 nm:Str
 file:Option Str
 iB:List Ln
 j0:List Nm
 other:Option Str
 deriving DecidableEq
noncomputable def qQ:List Pt→List Str→List Pt
 | [],_=>[]
 | p::r,t=>if p.nm∈t then qQ r t else p::qQ r (match p.other with|some o=>o::t|none=>t)
noncomputable def live(ps:List Pt):List Pt:=(qQ ps.reverse []).reverse
noncomputable def gO(ps:List Pt)(f:Str):List Ln:=(ps.filter fun p=>p.file=some f).flatMap (·.iB)
noncomputable def gone(ps:List Pt):List Nm:=ps.flatMap (·.j0)
noncomputable def nN(ps:List Pt)(f:Str):List Ln:=(gO (live ps) f).filter fun l=>l.nm∉gone (live ps)
theorem wz:∀(ps:List Pt)(t:List Str),(qQ ps t).Sublist ps
 | [],_=>aaC _
 | p::r,t=>by
  unfold qQ
  split
  ·exact(wz r t).cons p
  ·exact(wz r _).cons_cons p
theorem DX(ps:List Pt):(live ps).Sublist ps:=by
 have:=(wz ps.reverse []).reverse
 rwa [List.reverse_reverse] at this
theorem B7{ps qs:List Pt}(h:ps.Sublist qs)(f:Str):(gO ps f).Sublist (gO qs f):=by
 unfold gO
 have h:=h.filter (fun p=>decide (p.file=some f))
 generalize ps.filter _=a at h
 generalize qs.filter _=b at h
 induction h with
 | slnil=>exact aaC _
 | cons x _ ih=>rw[aaD];exact ih.trans (aa1 _ _)
 | cons_cons x _ ih=>rw[aaD,aaD];exact(aaC _).append ih
theorem lF(ps:List Pt)(f:Str):(nN ps f).Sublist (gO ps f):=
 aaU.trans (B7 (DX ps) f)
def Sa(ls:List Ln)(m n:Nm):Prop:=∃l∈ls,(l.nm=n∧l.up=some m)∨(l.nm=m∧l.lo=some n)
inductive Ah(ls:List Ln):Nm→Nm→Prop
 | one {m n}:Sa ls m n→Ah ls m n
 | T1 {m k n}:Ah ls m k→Sa ls k n→Ah ls m n
theorem Ah.last{ls:List Ln}{m n:Nm}:Ah ls m n↔Sa ls m n∨∃k,Ah ls m k∧Sa ls k n:=by
 constructor
 ·intro h
  cases h with
  | one x=>exact .inl x
  | T1 a x=>exact .inr ⟨_,a,x⟩
 ·rintro(x|⟨k,a,x⟩)
  ·exact .one x
  ·exact .T1 a x
def Rk(ls:List Ln)(rk:Nm→Nat):Prop:=∀l∈ls,(∀m,l.up=some m→rk m<rk l.nm)∧(∀m,l.lo=some m→rk l.nm<rk m)
def JG(ls:List Ln):Prop:=∃rk,Rk ls rk
theorem Rk.sa{ls:List Ln}{rk:Nm→Nat}(r:Rk ls rk){m n:Nm}(h:Sa ls m n):rk m<rk n:=by
 obtain⟨l,hl,⟨rfl,e⟩|⟨rfl,e⟩⟩:=h
 ·exact(r l hl).1 m e
 ·exact(r l hl).2 n e
theorem Rk.ah{ls:List Ln}{rk:Nm→Nat}(r:Rk ls rk){m n:Nm}(h:Ah ls m n):rk m<rk n:=by
 induction h with
 | one x=>exact r.sa x
 | T1 _ x ih=>exact Nat.lt_trans ih (r.sa x)
def qi(ls:List Ln):Prop:=∀l∈ls,(∀m,l.up=some m→m∈ls.map (·.nm))∧(∀m,l.lo=some m→m∈ls.map (·.nm))
theorem qi.sa{ls:List Ln}(c:qi ls){m n:Nm}(h:Sa ls m n):m∈ls.map (·.nm)∧n∈ls.map (·.nm):=by
 obtain⟨l,hl,⟨rfl,e⟩|⟨rfl,e⟩⟩:=h
 ·exact⟨(c l hl).1 m e,aaa hl⟩
 ·exact⟨aaa hl,(c l hl).2 n e⟩
theorem qi.ah{ls:List Ln}(c:qi ls){m n:Nm}(h:Ah ls m n):m∈ls.map (·.nm)∧n∈ls.map (·.nm):=by
 induction h with
 | one x=>exact c.sa x
 | T1 _ x ih=>exact⟨ih.1,(c.sa x).2⟩
section
open Classical
variable(lt:Nm→Nm→Prop)
noncomputable def free(ls:List Ln)(l:Ln):Bool:=decide (∀o∈ls,¬lt o.nm l.nm)
noncomputable def tJ:Nat→List Ln→List Ln
 | 0,_=>[]
 | n+1,ls=>match ls.find? (free lt ls) with
  | none=>[]
  | some l=>l::tJ n (ls.filter fun o=>o.nm≠l.nm)
noncomputable def rowOf(ls:List Ln):List Ln:=tJ lt ls.length ls
def ltAt(row:List Ln)(i j:Nat):Prop:=∃a b,row[i]?=some a∧row[j]?=some b∧lt a.nm b.nm
noncomputable def kQ(row:List Ln):List (Nat×Nat):=
 (List.range row.length).flatMap fun i=>((List.range' (i+1) (row.length-(i+1))).filter fun j=>decide (¬ltAt lt row i j)).map fun j=>(i,j)
variable{lt}
theorem xA{rk:Nm→Nat}(hr:∀m n,lt m n→rk m<rk n):∀(ls:List Ln),ls≠[]→∃l,ls.find? (free lt ls)=some l:=by
 intro ls hn
 have least:∀(xs:List Ln),xs≠[]→∃l∈xs,∀o∈xs,rk l.nm≤rk o.nm:=by
  intro xs
  induction xs with
  | nil=>intro h;exact absurd rfl h
  | cons x r ih=>
   intro _
   by_cases h:r=[]
   ·subst h;exact⟨x,by simp,fun o ho=>by simp at ho;rw[ho];exact Vx _⟩
   ·obtain⟨l,hl,hm⟩:=ih h
    by_cases hx:rk x.nm≤rk l.nm
    ·refine⟨x,by simp,fun o ho=>?_⟩
     rcases Wg.mp ho with rfl|ho
     ·exact Vx _
     ·exact aac hx (hm o ho)
    ·refine⟨l,aaj _ hl,fun o ho=>?_⟩
     rcases Wg.mp ho with rfl|ho
     ·omega
     ·exact hm o ho
 obtain⟨l,hl,hm⟩:=least ls hn
 have hf:free lt ls l=true:=Vy fun o ho kB=>by have:=hr _ _ kB;have:=hm o ho;omega
 cases e:ls.find? (free lt ls) with
 | some x=>exact⟨x,rfl⟩
 | none=>exact absurd hf (by have:=List.find?_eq_none.mp e l hl;simpa using this)
theorem pF{ls:List Ln}(nd:(ls.map (·.nm)).Nodup){l:Ln}(hl:l∈ls):(ls.filter fun o=>o.nm≠l.nm).length+1=ls.length:=by
 induction ls with
 | nil=>cases hl
 | cons x r ih=>
  rw[aaw,aaX] at nd
  rcases Wg.mp hl with rfl|hl
  ·have e:r.filter (fun o=>decide (o.nm≠l.nm))=r:=List.filter_eq_self.mpr fun o ho=>Vy fun z=>nd.1 (z▸aaa ho)
   rw[aag (by simp),e,aaf]
  ·have hx:x.nm≠l.nm:=fun z=>nd.1 (z▸aaa hl)
   rw[YK (by simpa using hx),aaf,aaf,ih nd.2 hl]
theorem yy{ls:List Ln}(nd:(ls.map (·.nm)).Nodup)(p:Ln→Bool):((ls.filter p).map (·.nm)).Nodup:=(aaU.map _).nodup nd
theorem zx{rk:Nm→Nat}(hr:∀m n,lt m n→rk m<rk n):∀(n:Nat)(ls:List Ln),n=ls.length→(ls.map (·.nm)).Nodup→(tJ lt n ls).Perm ls
 | 0,ls,e,_=>by
  have:ls=[]:=aaE.mp e.symm
  subst this;exact List.Perm.refl _
 | n+1,ls,e,nd=>by
  have hn:ls≠[]:=fun z=>by subst z;cases e
  obtain⟨l,hf⟩:=xA hr ls hn
  have hl:l∈ls:=List.mem_of_find?_eq_some hf
  unfold tJ
  rw[hf]
  have hlen:=pF nd hl
  have ih:=zx hr n (ls.filter fun o=>o.nm≠l.nm) (by omega) (yy nd _)
  refine(ih.cons l).trans ?_
  clear ih hf hlen e hn
  induction ls with
  | nil=>cases hl
  | cons x r ih=>
   rw[aaw,aaX] at nd
   rcases Wg.mp hl with rfl|hl
   ·have e:r.filter (fun o=>decide (o.nm≠l.nm))=r:=List.filter_eq_self.mpr fun o ho=>Vy fun z=>nd.1 (z▸aaa ho)
    rw[aag (by simp),e]
   ·have hx:x.nm≠l.nm:=fun z=>nd.1 (z▸aaa hl)
    rw[YK (by simpa using hx)]
    exact(List.Perm.swap _ _ _).trans ((ih nd.2 hl).cons x)
theorem Fw{rk:Nm→Nat}(hr:∀m n,lt m n→rk m<rk n){ls:List Ln}(nd:(ls.map (·.nm)).Nodup):(rowOf lt ls).Perm ls:=zx hr _ ls rfl nd
end
noncomputable def DY(sf:Nm→List Nm)(S:List Nm)(x:Nm):List Nm:=(sf x).filter fun y=>y∉S
inductive Run(sf:Nm→List Nm)(B:Nat):Nat→List Nm→List Nm→Prop
 | nil {S}:Run sf B 0 [] S
 | skip {n x st S}:x∈S→(x::st).length≤B→Run sf B n st S→Run sf B (n+1) (x::st) S
 | fin {n x st S}:x∉S→DY sf S x=[]→(x::st).length≤B→Run sf B n st (S++[x])→Run sf B (n+1) (x::st) S
 | push {n x st S}:x∉S→DY sf S x≠[]→(x::st).length≤B→Run sf B n ((DY sf S x).reverse++x::st) S→Run sf B (n+1) (x::st) S
theorem B8{sf:Nm→List Nm}{S:List Nm}{x:Nm}:DY sf S x=[]↔∀y∈sf x,y∈S:=by
 unfold DY
 rw[List.filter_eq_nil_iff]
 exact⟨fun h y hy=>by simpa using h y hy,fun h y hy=>by simpa using h y hy⟩
theorem LU{sf:Nm→List Nm}{B N:Nat}(cr:Nm→Nat)(hN:∀x,(sf x).length≤N)(hc:∀x y,y∈sf x→cr y<cr x):∀(k:Nat)(x:Nm),cr x≤k→∀(st S:List Nm),st.length+1+N*cr x≤B→
  (∀S',(∀y∈S,y∈S')→x∈S'→∃n,Run sf B n st S')→∃n,Run sf B n (x::st) S:=by
 intro k
 induction k with
 | zero=>
  intro x hx st S hB go
  by_cases hm:x∈S
  ·obtain⟨n,r⟩:=go S (fun _ h=>h) hm
   exact⟨n+1,.skip hm (by rw[aaf];omega) r⟩
  ·have e:DY sf S x=[]:=B8.mpr fun y hy=>by have:=hc x y hy;omega
   obtain⟨n,r⟩:=go (S++[x]) (fun _ h=>YI _ h) (by simp)
   exact⟨n+1,.fin hm e (by rw[aaf];omega) r⟩
 | succ k ih=>
  intro x hx st S hB go
  have hlen:(x::st).length≤B:=by rw[aaf];omega
  by_cases hm:x∈S
  ·obtain⟨n,r⟩:=go S (fun _ h=>h) hm
   exact⟨n+1,.skip hm hlen r⟩
  ·by_cases e:DY sf S x=[]
   ·obtain⟨n,r⟩:=go (S++[x]) (fun _ h=>YI _ h) (by simp)
    exact⟨n+1,.fin hm e hlen r⟩
   ·
    have many:∀(ms:List Nm)(S0:List Nm),(∀y∈ms,y∈sf x)→ms.length≤N→(∀S',(∀y∈S0,y∈S')→(∀y∈ms,y∈S')→∃n,Run sf B n (x::st) S')→∃n,Run sf B n (ms++x::st) S0:=by
     intro ms
     induction ms with
     | nil=>intro S0 _ _ h;exact h S0 (fun _ z=>z) (fun y hy=>by cases hy)
     | cons m r ihm=>
      intro S0 hs hl h
      have K9:=hc x m (hs m aav)
      rw[aaf] at hl
      refine ih m (by omega) (r++x::st) S0 ?_ fun S1 h1 V9=>ihm S1 (fun y hy=>hs y (aaj _ hy)) (by omega) fun S2 h2 h3=>h S2 (fun y hy=>h2 y (h1 y hy)) fun y hy=>?_
      ·rw[Vq,aaf]
       have:N*cr m+N≤N*cr x:=by rw[←Nat.mul_succ];exact Nat.mul_le_mul_left N K9
       omega
      ·rcases Wg.mp hy with z|z
       ·rw[z];exact h2 m V9
       ·exact h3 y z
    have A7:(DY sf S x).length≤N:=aac (aaG _ _) (hN x)
    have cont:∀S',(∀y∈S,y∈S')→(∀y∈(DY sf S x).reverse,y∈S')→∃n,Run sf B n (x::st) S':=fun S' h1 h2=>by
     by_cases Pu:x∈S'
     ·obtain⟨n,r⟩:=go S' h1 Pu
      exact⟨n+1,.skip Pu hlen r⟩
     ·have e':DY sf S' x=[]:=B8.mpr fun y hy=>by
       by_cases T9:y∈S
       ·exact h1 y T9
       ·exact h2 y (List.mem_reverse.mpr (aam.mpr ⟨hy,by simpa using T9⟩))
      obtain⟨n,r⟩:=go (S'++[x]) (fun y hy=>YI _ (h1 y hy)) (by simp)
      exact⟨n+1,.fin Pu e' hlen r⟩
    obtain⟨n,r⟩:=many (DY sf S x).reverse S (fun y hy=>(aam.mp (List.mem_reverse.mp hy)).1) (by rw[abi];exact A7) cont
    exact⟨n+1,.push hm e hlen r⟩
noncomputable def Qe(ls:List Ln)(rk:Nm→Nat)(n:Nm):Nat:=(ls.filter fun l=>rk l.nm<rk n).length
theorem Ou(ls:List Ln)(rk:Nm→Nat)(n:Nm):Qe ls rk n≤ls.length:=aaG _ _
theorem Ov{ls:List Ln}{rk:Nm→Nat}{m n:Nm}(hm:m∈ls.map (·.nm))(h:rk m<rk n):Qe ls rk m<Qe ls rk n:=by
 unfold Qe
 have mono:∀{a b:Ln→Bool} {xs:List Ln},(∀x∈xs,a x=true→b x=true)→(xs.filter a).length≤(xs.filter b).length:=by
  intro a b xs G3
  induction xs with
  | nil=>exact Vx _
  | cons x r ih=>
   have ih:=ih fun y hy=>G3 y (aaj _ hy)
   by_cases ha:a x=true
   ·rw[YK ha,YK (G3 x aav ha),aaf,aaf];omega
   ·rw[aag ha]
    by_cases hb:b x=true
    ·rw[YK hb,aaf];omega
    ·rw[aag hb];exact ih
 obtain⟨l,hl,rfl⟩:=List.mem_map.mp hm
 obtain⟨a,b,rfl⟩:=List.append_of_mem hl
 rw[aaH,aaH,Vq,Vq]
 rw[aag (by simp),YK (by simpa using h),aaf]
 have h1:=mono (a:=fun x:Ln=>decide (rk x.nm<rk l.nm)) (b:=fun x=>decide (rk x.nm<rk n)) (xs:=a) fun x _ hx=>by simp at hx ⊢;omega
 have h2:=mono (a:=fun x:Ln=>decide (rk x.nm<rk l.nm)) (b:=fun x=>decide (rk x.nm<rk n)) (xs:=b) fun x _ hx=>by simp at hx ⊢;omega
 omega
theorem len_sub{xs ys:List Nm}(nd:xs.Nodup)(h:∀x∈xs,x∈ys):xs.length≤ys.length:=by
 induction xs generalizing ys with
 | nil=>exact aaI _
 | cons a r ih=>
  rw[aaX] at nd
  obtain⟨p,q,rfl⟩:=List.append_of_mem (h a aav)
  have:=ih (ys:=p++q) nd.2 fun z hz=>by
   have:=h z (aaj _ hz)
   rcases Wl.mp this with w|w
   ·exact YI _ w
   ·rcases Wg.mp w with w|w
    ·exact absurd (w▸hz) nd.1
    ·exact aaA _ w
  rw[Vq] at this
  rw[aaf,Vq,aaf]
  omega
theorem JH{ls:List Ln}(cl:qi ls)(tp:JG ls){sf:Nm→List Nm}(hs:∀n,(sf n).Nodup∧∀m,m∈sf n↔Sa ls m n)(x:Nm)(S:List Nm):∃n,Run sf (1+ls.length*ls.length) n [x] S:=by
 obtain⟨rk,hr⟩:=tp
 have Wf:∀n,(sf n).length≤ls.length:=fun n=>by
  have:=len_sub (ys:=ls.map (·.nm)) (hs n).1 fun y hy=>(cl.sa (((hs n).2 y).mp hy)).1
  rw[So] at this
  exact this
 refine LU (N:=ls.length) (Qe ls rk) Wf (fun x y hy=>?_) _ x (Vx _) [] S ?_ fun S' _ _=>⟨0,.nil⟩
 ·have h:=((hs x).2 y).mp hy
  exact Ov (cl.sa h).1 (hr.sa h)
 ·have:=Nat.mul_le_mul_left ls.length (Ou ls rk x)
  show 0+1+ls.length*Qe ls rk x≤1+ls.length*ls.length
  omega
def HE(n m:Nat)(qs:List (Nat×Nat)):Prop:=qs.Pairwise (fun a b=>a.1<b.1∧a.2<b.2)∧∀q∈qs,q.1<n∧q.2<m
theorem HF{α:Type}[DecidableEq α]{old new:List α}{i j:Nat}{qs:List (Nat×Nat)}(g:K01.Good old new i j qs):HE old.length new.length qs∧∀q∈qs,i≤q.1∧j≤q.2:=by
 induction g with
 | nil=>exact⟨⟨List.Pairwise.nil,fun q hq=>by cases hq⟩,fun q hq=>by cases hq⟩
 | @cons i j p q r h1 h2 a e1 e2 h3 t ih=>
  obtain⟨⟨h4,h5⟩,h6⟩:=ih
  refine⟨⟨List.Pairwise.cons (fun b hb=>?_) h4,fun b hb=>?_⟩,fun b hb=>?_⟩
  ·have:=h6 b hb
   exact⟨by show p<b.1;omega,by show q<b.2;omega⟩
  ·rcases Wg.mp hb with rfl|hb
   ·exact⟨(List.getElem?_eq_some_iff.mp e1).1,(List.getElem?_eq_some_iff.mp e2).1⟩
   ·exact h5 b hb
  ·rcases Wg.mp hb with rfl|hb
   ·exact⟨h1,h2⟩
   ·have:=h6 b hb
    omega
theorem sV{α:Type}[DecidableEq α](old new:List α):HE old.length new.length (K01.kept old new):=(HF (K01.HC old new)).1
noncomputable def mO(row:List Ln):List (Nat×Nat)→Nat→Option Nm
 | [],_=>none
 | q::r,s=>if q.2=s then(row[q.1]?).map (·.nm) else mO row r s
noncomputable def ue(row:List Ln)(qs:List (Nat×Nat)):List Nm:=qs.filterMap fun q=>(row[q.1]?).map (·.nm)
theorem B9{row:List Ln}{qs:List (Nat×Nat)}{s:Nat}{m:Nm}(h:mO row qs s=some m):∃q∈qs,q.2=s∧∃l,row[q.1]?=some l∧l.nm=m:=by
 induction qs with
 | nil=>cases h
 | cons q r ih=>
  unfold mO at h
  by_cases e:q.2=s
  ·rw[aaq e] at h
   obtain⟨l,hl,e2⟩:=Option.map_eq_some_iff.mp h
   exact⟨q,aav,e,l,hl,e2⟩
  ·rw[aal e] at h
   obtain⟨q',hq,z⟩:=ih h
   exact⟨q',aaj _ hq,z⟩
theorem B_{row:List Ln}{m:Nat}:∀{qs:List (Nat×Nat)},HE row.length m qs→∀s,(mO row qs s).isSome=decide (s∈qs.map (·.2))
 | [],_,s=>rfl
 | q::r,h,s=>by
  have hr:HE row.length m r:=⟨(List.pairwise_cons.mp h.1).2,fun x hx=>h.2 x (aaj _ hx)⟩
  unfold mO
  by_cases e:q.2=s
  ·rw[aaq e,Su (h.2 q aav).1,Vy (by rw[aaw,e];exact aav)];rfl
  ·rw[aal e,B_ hr s,aaw]
   by_cases z:s∈r.map (·.2)
   ·rw[Vy z,Vy (aaj _ z)]
   ·rw[aab z,aab (fun w=>(Wg.mp w).elim (fun w=>e w.symm) z)]
theorem LV{row:List Ln}{qs:List (Nat×Nat)}{m:Nat}{rk:Nm→Nat}(h:HE row.length m qs)(hr:row.Pairwise fun a b=>rk a.nm<rk b.nm){s t:Nat}{a b:Nm}(hs:mO row qs s=some a)(ht:mO row qs t=some b)(xc:s<t):rk a<rk b:=by
 obtain⟨q1,h1,e1,l1,r1,rfl⟩:=B9 hs
 obtain⟨q2,h2,e2,l2,r2,rfl⟩:=B9 ht
 have kB:q1.1<q2.1:=by
  obtain⟨i,hi,ei⟩:=List.mem_iff_getElem.mp h1
  obtain⟨j,hj,ej⟩:=List.mem_iff_getElem.mp h2
  have hp:=abQ.mp h.1
  rcases Nat.lt_trichotomy i j with z|z|z
  ·have:=hp i j hi hj z;rw[ei,ej] at this;exact this.1
  ·subst z;rw[ei] at ej;subst ej;omega
  ·have:=hp j i hj hi z;rw[ei,ej] at this;omega
 obtain⟨g1,w1⟩:=List.getElem?_eq_some_iff.mp r1
 obtain⟨g2,w2⟩:=List.getElem?_eq_some_iff.mp r2
 have:=abQ.mp hr _ _ g1 g2 kB
 rw[w1,w2] at this
 exact this
noncomputable def LW(kn:Nat→Option Nm):Nat→Nat→Option Nm
 | 0,_=>none
 | k+1,i=>match kn (i+1) with|some m=>some m|none=>LW kn k (i+1)
noncomputable def tm(p:Str)(kn:Nat→Option Nm):Nat→Nat→Option Nm→List Str→List Ln
 | _,_,_,[]=>[]
 | i,j,u,t::r=>match kn i with
  | some m=>tm p kn (i+1) j (some m) r
  | none=>⟨(p,j),t,u,LW kn r.length i⟩::tm p kn (i+1) (j+1) (some (p,j)) r
noncomputable def ku(p:Str)(texts:List Str)(kn:Nat→Option Nm):List Ln:=tm p kn 0 0 none texts
noncomputable def mG(p f:Str)(row:List Ln)(texts:List Str):Pt:=
 ⟨p,some f,ku p texts (mO row (K01.kept (row.map (·.tx)) texts)),(row.filter fun l=>l.nm∉ue row (K01.kept (row.map (·.tx)) texts)).map (·.nm),none⟩
theorem uT(p:Str)(kn:Nat→Option Nm):∀(r:List Str)(i j:Nat)(u:Option Nm),(tm p kn i j u r).map (·.nm)=(List.range' j (tm p kn i j u r).length).map fun k=>(p,k)
 | [],_,_,_=>rfl
 | t::r,i,j,u=>by
  unfold tm
  cases h:kn i with
  | some m=>exact uT p kn r (i+1) j (some m)
  | none=>
   simp only [aaw,aaf,acf]
   rw[uT p kn r (i+1) (j+1) (some (p,j))]
theorem zy(p:Str)(kn:Nat→Option Nm):∀(r:List Str)(i j:Nat)(u:Option Nm),(tm p kn i j u r).length=((List.range' i r.length).filter fun k=>(kn k).isNone).length
 | [],_,_,_=>rfl
 | t::r,i,j,u=>by
  unfold tm
  rw[aaf,acf]
  cases h:kn i with
  | some m=>rw[aag (by simp[h])];exact zy p kn r (i+1) j (some m)
  | none=>rw[YK (by simp[h]),aaf];simp only [aaf];rw[zy p kn r (i+1) (j+1) (some (p,j))]
theorem Ca{kn:Nat→Option Nm}{m:Nm}:∀{k i:Nat},LW kn k i=some m→∃t,i<t∧t≤i+k∧kn t=some m
 | 0,_,h=>by cases h
 | k+1,i,h=>by
  unfold LW at h
  cases e:kn (i+1) with
  | some m'=>
   rw[e] at h
   cases h
   exact⟨i+1,by omega,by omega,e⟩
  | none=>
   rw[e] at h
   obtain⟨t,h1,h2,h3⟩:=Ca (k:=k) (i:=i+1) h
   exact⟨t,by omega,by omega,h3⟩
theorem yT{p:Str}{kn:Nat→Option Nm}:∀(r:List Str)(i j:Nat)(u:Option Nm),∀l∈tm p kn i j u r,∀m,l.up=some m∨l.lo=some m→(u=some m∨∃t,kn t=some m)∨m∈(tm p kn i j u r).map (·.nm)
 | [],_,_,_,l,hl,_,_=>by cases hl
 | t::r,i,j,u,l,hl,m,hm=>by
  unfold tm at hl ⊢
  cases h:kn i with
  | some m'=>
   rw[h] at hl
   rcases yT r (i+1) j (some m') l hl m hm with(z|z)|z
   ·exact .inl (.inr ⟨i,by rw[h];exact z⟩)
   ·exact .inl (.inr z)
   ·exact .inr z
  | none=>
   rw[h] at hl
   rcases Wg.mp hl with rfl|hl
   ·rcases hm with hm|hm
    ·exact .inl (.inl hm)
    ·obtain⟨t,_,_,e⟩:=Ca hm
     exact .inl (.inr ⟨t,e⟩)
   ·rcases yT r (i+1) (j+1) (some (p,j)) l hl m hm with(z|z)|z
    ·cases z
     exact .inr (by rw[aaw];exact aav)
    ·exact .inl (.inr z)
    ·exact .inr (aaj _ z)
noncomputable def JI(rk:Nm→Nat)(kn:Nat→Option Nm):Nat→Nat
 | 0=>0
 | i+1=>match kn i with|some m=>rk m+1|none=>JI rk kn i
noncomputable def Vz(kn:Nat→Option Nm)(n j:Nat):Nat:=(((List.range n).filter fun k=>(kn k).isNone)[j]?).getD 0
noncomputable def Fx(rk:Nm→Nat)(kn:Nat→Option Nm)(p:Str)(n:Nat)(x:Nm):Nat:=if x.1=p then JI rk kn (Vz kn n x.2)*(n+1)+x.2+1 else(rk x+1)*(n+1)
theorem JJ{rk:Nm→Nat}{kn:Nat→Option Nm}(hk:∀s t a b,kn s=some a→kn t=some b→s<t→rk a<rk b):∀i t b,kn t=some b→i≤t→JI rk kn i≤rk b
 | 0,_,_,_,_=>aaI _
 | i+1,t,b,h,hi=>by
  unfold JI
  cases e:kn i with
  | some m=>exact hk i t m b e h (by omega)
  | none=>exact JJ hk i t b h (by omega)
theorem Ow{kn:Nat→Option Nm}{n i:Nat}(hi:i<n)(h:kn i=none):Vz kn n ((List.range i).filter fun k=>(kn k).isNone).length=i:=by
 unfold Vz
 have e:List.range n=List.range i++i::List.range' (i+1) (n-(i+1)):=by
  have h1:List.range n=List.range i++(List.range' i (n-i)):=by
   have:=List.range'_append_1 (s:=0) (m:=i) (n:=n-i)
   rw[Nat.zero_add,show i+(n-i)=n by omega] at this
   rw[List.range_eq_range',List.range_eq_range',this]
  rw[h1,show n-i=(n-(i+1))+1 by omega,acf]
 rw[e,aaH,YK (by simp[h]),aba (Vx _),Nat.sub_self]
 rfl
theorem Cb{rk:Nm→Nat}{kn:Nat→Option Nm}{p:Str}{n:Nat}(hk:∀s t a b,kn s=some a→kn t=some b→s<t→rk a<rk b)(hp:∀s a,kn s=some a→a.1≠p) :
  ∀(r:List Str)(i j:Nat)(u:Option Nm),i+r.length=n→j=((List.range i).filter fun k=>(kn k).isNone).length→(∀m,u=some m→Fx rk kn p n m≤JI rk kn i*(n+1)+j)→
   Rk (tm p kn i j u r) (Fx rk kn p n)
 | [],_,_,_,_,_,_=>fun l hl=>by cases hl
 | t::r,i,j,u,hn,hj,hu=>by
  rw[aaf] at hn
  have Iu:i<n:=by omega
  have Ik:j≤i:=by rw[hj];exact aac (aaG _ _) (by rw[abX];exact Vx _)
  have e1:(List.range (i+1)).filter (fun k=>(kn k).isNone)=(List.range i).filter (fun k=>(kn k).isNone)++if(kn i).isNone then[i] else[]:=by
   rw[acb,aaH]
   congr 1
   cases h:(kn i).isNone<;>simp[h]
  unfold tm
  cases h:kn i with
  | some m=>
   refine Cb hk hp r (i+1) j (some m) (by omega) (by rw[e1,h];simpa using hj) fun m' e=>?_
   cases e
   unfold Fx
   rw[aal (hp i m h),JI.eq_2,h]
   show(rk m+1)*(n+1)≤(rk m+1)*(n+1)+j
   omega
  | none=>
   have Pw:Fx rk kn p n (p,j)=JI rk kn i*(n+1)+j+1:=by
    unfold Fx
    rw[aaq rfl,hj,Ow Iu h]
   have hb:JI rk kn (i+1)=JI rk kn i:=by rw[JI.eq_2,h]
   intro l hl
   rcases Wg.mp hl with rfl|hl
   ·refine⟨fun m hm=>?_,fun m hm=>?_⟩
    ·have:=hu m hm
     show Fx rk kn p n m<Fx rk kn p n (p,j)
     omega
    ·obtain⟨t',Y_,Wh,e⟩:=Ca hm
     show Fx rk kn p n (p,j)<Fx rk kn p n m
     have hle:=JJ hk i t' m e (by omega)
     rw[Pw]
     unfold Fx
     rw[aal (hp t' m e)]
     have h1:JI rk kn i*(n+1)≤rk m*(n+1):=Nat.mul_le_mul_right _ hle
     have h2:(rk m+1)*(n+1)=rk m*(n+1)+(n+1):=Nat.succ_mul _ _
     omega
   ·refine Cb hk hp r (i+1) (j+1) (some (p,j)) (by omega) (by rw[e1,h,hj];simp) (fun m' e=>?_) l hl
    cases e
    rw[Pw,hb]
    omega
theorem JK{rk:Nm→Nat}{kn:Nat→Option Nm}{p:Str}(hk:∀s t a b,kn s=some a→kn t=some b→s<t→rk a<rk b)(hp:∀s a,kn s=some a→a.1≠p)(texts:List Str):Rk (ku p texts kn) (Fx rk kn p texts.length):=
 Cb hk hp texts 0 0 none (by omega) rfl fun m e=>by cases e
theorem JL{rk:Nm→Nat}{kn:Nat→Option Nm}{p:Str}{n:Nat}{ls:List Ln}(r:Rk ls rk)(h:∀l∈ls,l.nm.1≠p∧∀m,l.up=some m∨l.lo=some m→m.1≠p):Rk ls (Fx rk kn p n):=by
 intro l hl
 obtain⟨h1,h2⟩:=h l hl
 have e:∀x:Nm,x.1≠p→Fx rk kn p n x=(rk x+1)*(n+1):=fun x hx=>by unfold Fx;rw[aal hx]
 refine⟨fun m hm=>?_,fun m hm=>?_⟩
 ·rw[e _ h1,e _ (h2 m (.inl hm))]
  exact Nat.mul_lt_mul_of_pos_right (Nat.succ_lt_succ ((r l hl).1 m hm)) (Nat.succ_pos _)
 ·rw[e _ h1,e _ (h2 m (.inr hm))]
  exact Nat.mul_lt_mul_of_pos_right (Nat.succ_lt_succ ((r l hl).2 m hm)) (Nat.succ_pos _)
theorem DZ{xs ys:List Nat}(nd:xs.Nodup)(h:∀x∈xs,x∈ys):xs.length≤ys.length:=by
 have:=len_sub (xs:=xs.map fun k=>((Str.empty,k):Nm)) (ys:=ys.map fun k=>(Str.empty,k)) (List.pairwise_map.mpr (nd.imp fun h z=>h (aa2 Prod.snd z))) fun x hx=>by
  obtain⟨k,hk,rfl⟩:=List.mem_map.mp hx
  exact aaa (h k hk)
 rwa [So,So] at this
theorem zz{α:Type}(p:α→Bool):∀xs:List α,(xs.filter p).length+(xs.filter fun x=>!p x).length=xs.length
 | []=>rfl
 | x::r=>by
  have:=zz p r
  cases h:p x<;>simp[h]<;>omega
theorem GD{row:List Ln}{texts:List Str}{qs:List (Nat×Nat)}(h:HE row.length texts.length qs)(p:Str):(ku p texts (mO row qs)).length+qs.length=texts.length:=by
 unfold ku
 rw[zy,←List.range_eq_range']
 have h2:=zz (fun k=>(mO row qs k).isNone) (List.range texts.length)
 rw[abX] at h2
 have h3:((List.range texts.length).filter fun x=>!(mO row qs x).isNone).length=qs.length:=by
  have nd:(qs.map (·.2)).Nodup:=List.pairwise_map.mpr (h.1.imp fun z e=>by omega)
  refine Nat.le_antisymm ?_ ?_
  ·have:=DZ (xs:=(List.range texts.length).filter fun x=>!(mO row qs x).isNone) (ys:=qs.map (·.2)) (List.nodup_range.sublist aaU) fun x hx=>by
    have h4:=(aam.mp hx).2
    have h5:(mO row qs x).isSome=true:=by cases e:mO row qs x<;>simp[e] at h4 ⊢
    rw[B_ h] at h5
    exact aau h5
   rwa [So] at this
  ·have:=DZ (xs:=qs.map (·.2)) (ys:=(List.range texts.length).filter fun x=>!(mO row qs x).isNone) nd fun x hx=>by
    refine aam.mpr ⟨List.mem_range.mpr ?_,?_⟩
    ·obtain⟨q,hq,rfl⟩:=List.mem_map.mp hx
     exact(h.2 q hq).2
    ·have h5:=B_ h x
     rw[Vy hx] at h5
     cases e:mO row qs x<;>simp[e] at h5 ⊢
   rwa [So] at this
 omega
structure Dk where
 made:List Pt
 iC:Str→List Str
 stores:List Str
 held:Str→List Str
noncomputable def named(p:Pt):List Nm:=p.j0++p.iB.flatMap fun l=>l.up.toList++l.lo.toList
noncomputable def iK(p:Pt):List Str:=((named p).filter fun n=>n.1≠p.nm).map (·.1)++p.other.toList
noncomputable def sW(nd:Str→List Str)(p:Pt):List Str:=(iK p).flatMap fun y=>y::nd y
namespace Dk
noncomputable def names(D:Dk):List Str:=D.made.map (·.nm)
noncomputable def keep(D:Dk)(s:Str)(p:Pt):Dk:=⟨D.made++[p],fun x=>if x=p.nm then sW D.iC p else D.iC x,D.stores,fun t=>if t=s then D.held s++[p.nm] else D.held t⟩
noncomputable def begin(D:Dk)(s:Str):Dk:=⟨D.made,D.iC,D.stores++[s],fun t=>if t=s then[] else D.held t⟩
noncomputable def pG(D:Dk)(s:Str):List Pt:=D.made.filter fun p=>p.nm∈D.held s
noncomputable def has(D:Dk)(s:Str):List Str:=D.names.filter fun x=>x∈D.held s
noncomputable def jk(D:Dk)(x:Str):List Str:=D.names.filter fun y=>y∈D.iC x
noncomputable def mQ(D:Dk)(s x:Str):List Str:=(D.jk x++[x]).filter fun y=>y∉D.held s
noncomputable def take(D:Dk)(s x:Str):Dk:=⟨D.made,D.iC,D.stores,fun t=>if t=s then D.held s++D.mQ s x else D.held t⟩
noncomputable def drop(D:Dk)(s x:Str):Dk:=⟨D.made,D.iC,D.stores,fun t=>if t=s then(D.held s).filter (fun y=>y≠x) else D.held t⟩
noncomputable def row(D:Dk)(s f:Str):List Ln:=rowOf (Ah (gO (D.pG s) f)) (nN (D.pG s) f)
noncomputable def wA(D:Dk)(s f:Str):List (Nat×Nat):=kQ (Ah (gO (D.pG s) f)) (D.row s f)
theorem GF(D:Dk)(s:Str):D.has s=(D.pG s).map (·.nm):=by
 unfold has pG names
 rw[List.filter_map];rfl
end Dk
structure Inv(D:Dk):Prop where
 nd:D.names.Nodup
 HG:∀p∈D.made,p.iB.map (·.nm)=(List.range p.iB.length).map fun j=>(p.nm,j)
 refs:∀p∈D.made,∀l∈p.iB,∀m,l.up=some m∨l.lo=some m→∃q∈D.made,q.file=p.file∧m∈q.iB.map (·.nm)∧(q.nm=p.nm∨q.nm∈D.iC p.nm)
 rank:∃rk,∀p∈D.made,Rk p.iB rk
 before:∀i p,D.made[i]?=some p→∀x∈D.iC p.nm,x∈(D.made.take i).map (·.nm)
 trans:∀x∈D.names,∀y∈D.iC x,∀z∈D.iC y,z∈D.iC x
 stN:D.stores.Nodup
 k_:∀s∈D.stores,∀x∈D.held s,x∈D.names∧∀y∈D.iC x,y∈D.held s
 uU:∀s∈D.stores,(D.held s).Nodup
theorem rE{p:Pt}(h:p.iB.map (·.nm)=(List.range p.iB.length).map fun j=>(p.nm,j)){m:Nm}(hm:m∈p.iB.map (·.nm)):m.1=p.nm:=by
 rw[h] at hm
 obtain⟨j,_,rfl⟩:=List.mem_map.mp hm
 rfl
theorem Fy{ps:List Pt}(nd:(ps.map (·.nm)).Nodup)(h:∀p∈ps,p.iB.map (·.nm)=(List.range p.iB.length).map fun j=>(p.nm,j)):((ps.flatMap (·.iB)).map (·.nm)).Nodup:=by
 induction ps with
 | nil=>exact abg
 | cons x r ih=>
  rw[aaw,aaX] at nd
  rw[aaD,aat,aaZ]
  refine⟨?_,ih nd.2 fun p hp=>h p (aaj _ hp),fun a ha b hb e=>?_⟩
  ·rw[h x aav]
   exact List.pairwise_map.mpr (List.nodup_range.imp fun z e=>z (aa2 Prod.snd e))
  ·have e1:=rE (h x aav) ha
   obtain⟨l,hl,rfl⟩:=List.mem_map.mp hb
   obtain⟨q,hq,hlq⟩:=aa9.mp hl
   have e2:=rE (h q (aaj _ hq)) (aaa hlq)
   exact nd.1 (by rw[←e1,e,e2];exact aaa hq)
theorem lG{ps:List Pt}{f:Str}{l:Ln}:l∈gO ps f↔∃p∈ps,p.file=some f∧l∈p.iB:=by
 unfold gO
 rw[aa9]
 constructor
 ·rintro⟨p,hp,hl⟩
  obtain⟨h1,h2⟩:=aam.mp hp
  exact⟨p,h1,aau h2,hl⟩
 ·rintro⟨p,h1,h2,hl⟩
  exact⟨p,aam.mpr ⟨h1,Vy h2⟩,hl⟩
theorem uV(ps:List Pt)(f:Str):(gO ps f).Sublist (ps.flatMap (·.iB)):=by
 unfold gO
 have h:=aaU (p:=fun p:Pt=>decide (p.file=some f)) (l:=ps)
 generalize ps.filter _=qs at h
 induction h with
 | slnil=>exact aaC _
 | cons x _ ih=>rw[aaD];exact ih.trans (aa1 _ _)
 | cons_cons x _ ih=>rw[aaD,aaD];exact(aaC _).append ih
namespace Inv
variable{D:Dk}
theorem mx{s:Str}{p:Pt}:p∈D.pG s↔p∈D.made∧p.nm∈D.held s:=by
 unfold Dk.pG
 rw[aam,aa3]
theorem yU(s:Str):(D.pG s).Sublist D.made:=aaU
theorem nodup(I:Inv D)(s f:Str):((gO (D.pG s) f).map (·.nm)).Nodup:=
 ((uV _ f).map _).nodup (Fy (((yU s).map _).nodup I.nd) fun p hp=>I.HG p (yU s |>.subset hp))
theorem Ox(I:Inv D)(s f:Str):((nN (D.pG s) f).map (·.nm)).Nodup:=((lF _ f).map _).nodup (I.nodup s f)
theorem closed(I:Inv D){s:Str}(hs:s∈D.stores)(f:Str):qi (gO (D.pG s) f):=by
 have key:∀l∈gO (D.pG s) f,∀m,l.up=some m∨l.lo=some m→m∈(gO (D.pG s) f).map (·.nm):=fun l hl m hm=>by
  obtain⟨p,hp,hf,hl⟩:=lG.mp hl
  obtain⟨hp,hh⟩:=mx.mp hp
  obtain⟨q,hq,e,Wi,hn⟩:=I.refs p hp l hl m hm
  obtain⟨l',Il,rfl⟩:=List.mem_map.mp Wi
  refine aaa (lG.mpr ⟨q,mx.mpr ⟨hq,?_⟩,by rw[e];exact hf,Il⟩)
  rcases hn with hn|hn
  ·rw[hn];exact hh
  ·exact(I.k_ s hs _ hh).2 _ hn
 exact fun l hl=>⟨fun m hm=>key l hl m (.inl hm),fun m hm=>key l hl m (.inr hm)⟩
theorem Rn(I:Inv D)(s f:Str):JG (gO (D.pG s) f):=by
 obtain⟨rk,h⟩:=I.rank
 refine⟨rk,fun l hl=>?_⟩
 obtain⟨p,hp,_,hl⟩:=lG.mp hl
 exact h p (mx.mp hp).1 l hl
theorem zA(I:Inv D)(s f:Str):(D.row s f).Perm (nN (D.pG s) f):=by
 obtain⟨rk,r⟩:=I.Rn s f
 exact Fw (rk:=rk) (fun m n z=>r.ah z) (I.Ox s f)
theorem uW(I:Inv D){s f:Str}{l:Ln}(h:l∈D.row s f):∃p∈D.pG s,p.file=some f∧l∈p.iB:=
 lG.mp ((lF _ f).subset ((I.zA s f).subset h))
theorem uX(I:Inv D)(s f:Str):(D.row s f).length≤(D.made.flatMap (·.iB)).length:=by
 rw[(I.zA s f).length_eq]
 refine aac (lF _ f).length_le (aac (uV _ f).length_le ?_)
 have h:=yU (D:=D) s
 generalize D.pG s=qs at h
 generalize D.made=ms at h
 clear I
 induction h with
 | slnil=>exact Vx _
 | cons x _ ih=>rw[aaD,Vq];omega
 | cons_cons x _ ih=>rw[aaD,aaD,Vq,Vq];omega
open Classical in
theorem chain{lt:Nm→Nm→Prop}{row:List Ln}(hq:kQ lt row=[]):row.Pairwise fun a b=>lt a.nm b.nm:=by
 rw[abQ]
 intro i j hi hj Wj
 by_cases c:ltAt lt row i j
 ·obtain⟨a,b,ha,hb,z⟩:=c
  rw[Su hi] at ha
  rw[Su hj] at hb
  cases ha;cases hb
  exact z
 ·exfalso
  have:(i,j)∈kQ lt row:=by
   unfold kQ
   refine aa9.mpr ⟨i,List.mem_range.mpr hi,List.mem_map.mpr ⟨j,aam.mpr ⟨List.mem_range'.mpr ⟨j-(i+1),by omega,by omega⟩,Vy c⟩,rfl⟩⟩
  rw[hq] at this
  cases this
theorem keep(I:Inv D){s:Str}{p:Pt}(hs:s∈D.stores)(fresh:p.nm∉D.names)(HG:p.iB.map (·.nm)=(List.range p.iB.length).map fun j=>(p.nm,j))
  (refs:∀l∈p.iB,∀m,l.up=some m∨l.lo=some m→m∈p.iB.map (·.nm)∨∃q∈D.pG s,q.file=p.file∧m∈q.iB.map (·.nm))
  (j0:∀m∈p.j0,∃q∈D.pG s,m∈q.iB.map (·.nm)) (other:∀o,p.other=some o→o∈D.held s)
  (rank:∃rk,(∀q∈D.made,Rk q.iB rk)∧Rk p.iB rk):Inv (D.keep s p):=by
 have sJ:∀x∈D.names,x≠p.nm:=fun x hx e=>fresh (e▸hx)
 have Ui:∀q∈D.made,q.nm∈D.names:=fun q hq=>aaa hq
 have Qp:∀x,x≠p.nm→(D.keep s p).iC x=D.iC x:=fun x hx=>aal hx
 have Uj:(D.keep s p).iC p.nm=sW D.iC p:=aaq rfl
 have Wk:∀x∈iK p,x∈D.held s:=fun x hx=>by
  unfold iK at hx
  rcases Wl.mp hx with hx|hx
  ·obtain⟨m,hm,rfl⟩:=List.mem_map.mp hx
   obtain⟨hm,hn⟩:=aam.mp hm
   have hn:m.1≠p.nm:=aau hn
   have fin:(∃q∈D.pG s,m∈q.iB.map (·.nm))→m.1∈D.held s:=fun⟨q,hq,Wi⟩=>by
    obtain⟨h1,h2⟩:=mx.mp hq
    rw[rE (I.HG q h1) Wi];exact h2
   rcases Wl.mp hm with hm|hm
   ·exact fin (j0 m hm)
   ·obtain⟨l,hl,hm⟩:=aa9.mp hm
    have Pu:l.up=some m∨l.lo=some m:=by
     rcases Wl.mp hm with hm|hm
     ·exact .inl (by simpa using hm)
     ·exact .inr (by simpa using hm)
    rcases refs l hl m Pu with z|⟨q,hq,_,z⟩
    ·exact absurd (rE HG z) hn
    ·exact fin ⟨q,hq,z⟩
  ·exact other x (by simpa using hx)
 have nh:∀x∈sW D.iC p,x∈D.held s:=fun x hx=>by
  obtain⟨y,hy,hx⟩:=aa9.mp hx
  rcases Wg.mp hx with rfl|hx
  ·exact Wk _ hy
  ·exact(I.k_ s hs y (Wk y hy)).2 x hx
 have nn:∀x∈sW D.iC p,x∈D.names:=fun x hx=>(I.k_ s hs x (nh x hx)).1
 have Sq:∀x∈D.names,∀y∈D.iC x,y∈D.names:=fun x hx y hy=>by
  obtain⟨q,hq,rfl⟩:=List.mem_map.mp hx
  obtain⟨i,hi⟩:=aaL.mp hq
  have:=I.before i q hi y hy
  exact(acd i D.made).map _ |>.subset this
 refine⟨?_,fun q hq=>?_,fun q hq l hl m hm=>?_,?_,fun i q hq x hx=>?_,fun x hx y hy z hz=>?_,I.stN,fun t ht x hx=>?_,fun t ht=>?_⟩
 ·show((D.made++[p]).map (·.nm)).Nodup
  rw[aat,aaZ]
  exact⟨I.nd,by simp,fun a ha b hb e=>fresh (by simp at hb;rw[←hb,←e];exact ha)⟩
 ·rcases Wl.mp hq with hq|hq
  ·exact I.HG q hq
  ·rw[List.mem_singleton.mp hq];exact HG
 ·rcases Wl.mp hq with hq|hq
  ·obtain⟨q',h1,h2,h3,h4⟩:=I.refs q hq l hl m hm
   refine⟨q',YI _ h1,h2,h3,h4.imp id fun z=>?_⟩
   rw[Qp _ (sJ _ (Ui q hq))];exact z
  ·rw[List.mem_singleton.mp hq] at hl ⊢
   rcases refs l hl m hm with z|⟨q',h1,h2,h3⟩
   ·exact⟨p,by show p∈D.made++[p];simp,rfl,z,.inl rfl⟩
   ·obtain⟨h4,h5⟩:=mx.mp h1
    refine⟨q',YI _ h4,h2,h3,.inr ?_⟩
    rw[Uj]
    have e:=rE (I.HG q' h4) h3
    refine aa9.mpr ⟨q'.nm,?_,aav⟩
    unfold iK
    refine YI _ (List.mem_map.mpr ⟨m,aam.mpr ⟨?_,Vy ?_⟩,e⟩)
    ·unfold named
     refine aaA _ (aa9.mpr ⟨l,hl,?_⟩)
     rcases hm with hm|hm
     ·exact YI _ (by rw[hm];simp)
     ·exact aaA _ (by rw[hm];simp)
    ·rw[e];exact sJ _ (Ui q' h4)
 ·obtain⟨rk,h1,h2⟩:=rank
  refine⟨rk,fun q hq=>?_⟩
  rcases Wl.mp hq with hq|hq
  ·exact h1 q hq
  ·rw[List.mem_singleton.mp hq];exact h2
 ·show x∈((D.made++[p]).take i).map (·.nm)
  have hq:(D.made++[p])[i]?=some q:=hq
  by_cases hi:i<D.made.length
  ·rw[abP hi] at hq
   rw[List.take_append_of_le_length (by omega)]
   rw[Qp _ (sJ _ (Ui q (Vs hq)))] at hx
   exact I.before i q hq x hx
  ·have hl:=(List.getElem?_eq_some_iff.mp hq).1
   rw[Vq] at hl
   have hi:i=D.made.length:=by have:[p].length=1:=rfl;omega
   subst hi
   rw[aba (Vx _),Nat.sub_self] at hq
   cases hq
   rw[List.take_append_of_le_length (Vx _),aak]
   rw[Uj] at hx
   exact nn x hx
 ·have hx:x∈(D.made++[p]).map (·.nm):=hx
  rw[aat] at hx
  rcases Wl.mp hx with hx|hx
  ·rw[Qp _ (sJ x hx)] at hy ⊢
   rw[Qp _ (sJ y (Sq x hx y hy))] at hz
   exact I.trans x hx y hy z hz
  ·have hx:x=p.nm:=by simpa using hx
   rw[hx,Uj] at hy ⊢
   rw[Qp _ (sJ y (nn y hy))] at hz
   obtain⟨w,hw,hy⟩:=aa9.mp hy
   refine aa9.mpr ⟨w,hw,aaj _ ?_⟩
   rcases Wg.mp hy with rfl|hy
   ·exact hz
   ·exact I.trans w (I.k_ s hs w (Wk w hw)).1 y hy z hz
 ·have old:∀u∈D.stores,∀x∈D.held u,x∈(D.keep s p).names∧∀y∈(D.keep s p).iC x,y∈D.held u:=fun u hu x hx=>by
   obtain⟨h1,h2⟩:=I.k_ u hu x hx
   refine⟨?_,fun y hy=>?_⟩
   ·show x∈(D.made++[p]).map (·.nm)
    rw[aat];exact YI _ h1
   ·rw[Qp _ (sJ x h1)] at hy
    exact h2 y hy
  have hx:x∈(if t=s then D.held s++[p.nm] else D.held t):=hx
  show x∈(D.keep s p).names∧∀y∈(D.keep s p).iC x,y∈(if t=s then D.held s++[p.nm] else D.held t)
  by_cases e:t=s
  ·rw[aaq e] at hx ⊢
   rcases Wl.mp hx with hx|hx
   ·obtain⟨h1,h2⟩:=old s hs x hx
    exact⟨h1,fun y hy=>YI _ (h2 y hy)⟩
   ·have hx:x=p.nm:=by simpa using hx
    rw[hx]
    refine⟨?_,fun y hy=>?_⟩
    ·show p.nm∈(D.made++[p]).map (·.nm)
     simp
    ·rw[Uj] at hy
     exact YI _ (nh y hy)
  ·rw[aal e] at hx ⊢
   exact old t ht x hx
 ·show(if t=s then D.held s++[p.nm] else D.held t).Nodup
  by_cases e:t=s
  ·rw[aaq e,aaZ]
   exact⟨I.uU s hs,by simp,fun a ha b hb z=>fresh (by simp at hb;rw[←hb,←z];exact(I.k_ s hs a ha).1)⟩
  ·rw[aal e];exact I.uU t ht
theorem record(I:Inv D){s f x:Str}(hs:s∈D.stores)(fresh:x∉D.names)(hq:D.wA s f=[])(texts:List Str):Inv (D.keep s (mG x f (D.row s f) texts)):=by
 obtain⟨rk,Pw⟩:=I.rank
 have rise:=sV ((D.row s f).map (·.tx)) texts
 rw[So] at rise
 have Sr:∀t m,mO (D.row s f) (K01.kept ((D.row s f).map (·.tx)) texts) t=some m→∃q∈D.pG s,q.file=some f∧m∈q.iB.map (·.nm):=fun t m h=>by
  obtain⟨q,_,_,l,hl,rfl⟩:=B9 h
  obtain⟨p,h1,h2,h3⟩:=I.uW (Vs hl)
  exact⟨p,h1,h2,aaa h3⟩
 have own:∀q∈D.made,∀m∈q.iB.map (·.nm),m.1≠x:=fun q hq m hm e=>fresh (by rw[←e,rE (I.HG q hq) hm];exact aaa hq)
 have ch:(D.row s f).Pairwise fun a b=>rk a.nm<rk b.nm:=by
  have tr:Rk (gO (D.pG s) f) rk:=fun l hl=>by
   obtain⟨p,hp,_,hl⟩:=lG.mp hl
   exact Pw p (mx.mp hp).1 l hl
  exact(chain hq).imp fun z=>tr.ah z
 refine I.keep hs fresh ?_ (fun l hl m hm=>?_) (fun m hm=>?_) (fun o ho=>by cases ho) ⟨Fx rk (mO (D.row s f) (K01.kept ((D.row s f).map (·.tx)) texts)) x texts.length,fun q hq=>?_,?_⟩
 ·show(ku x texts _).map (·.nm)=(List.range (ku x texts _).length).map fun j=>(x,j)
  unfold ku
  rw[uT,←List.range_eq_range']
 ·rcases yT texts 0 0 none l hl m hm with(z|⟨t,z⟩)|z
  ·cases z
  ·exact .inr (Sr t m z)
  ·exact .inl z
 ·obtain⟨l,hl,rfl⟩:=List.mem_map.mp hm
  obtain⟨p,h1,_,h3⟩:=I.uW (aam.mp hl).1
  exact⟨p,h1,aaa h3⟩
 ·refine JL (Pw q hq) fun l hl=>⟨own q hq _ (aaa hl),fun m hm=>?_⟩
  obtain⟨q',h1,_,h3,_⟩:=I.refs q hq l hl m hm
  exact own q' h1 m h3
 ·refine JK (fun a b c d h1 h2 h3=>LV rise ch h1 h2 h3) (fun t m h=>?_) texts
  obtain⟨q,h1,_,h3⟩:=Sr t m h
  exact own q (mx.mp h1).1 m h3
theorem cut(I:Inv D){s f x:Str}(hs:s∈D.stores)(fresh:x∉D.names){ms:List Nm}(hm:∀m∈ms,m∈(D.row s f).map (·.nm)):Inv (D.keep s ⟨x,some f,[],ms,none⟩):=by
 refine I.keep hs fresh rfl (fun l hl=>by cases hl) (fun m h=>?_) (fun o ho=>by cases ho) ?_
 ·obtain⟨l,hl,rfl⟩:=List.mem_map.mp (hm m h)
  obtain⟨p,h1,_,h3⟩:=I.uW hl
  exact⟨p,h1,aaa h3⟩
 ·obtain⟨rk,h⟩:=I.rank
  exact⟨rk,h,fun l hl=>by cases hl⟩
theorem back(I:Inv D){s x o:Str}(hs:s∈D.stores)(fresh:x∉D.names)(ho:o∈D.held s):Inv (D.keep s ⟨x,none,[],[],some o⟩):=by
 refine I.keep hs fresh rfl (fun l hl=>by cases hl) (fun m h=>by cases h) (fun o' h=>by cases h;exact ho) ?_
 obtain⟨rk,h⟩:=I.rank
 exact⟨rk,h,fun l hl=>by cases hl⟩
theorem Br(I:Inv D){x:Str}(hx:x∈D.names):x∉D.iC x:=fun h=>by
 obtain⟨q,hq,rfl⟩:=List.mem_map.mp hx
 obtain⟨i,hi⟩:=aaL.mp hq
 have h1:=I.before i q hi _ h
 rw[List.map_take] at h1
 obtain⟨j,hj⟩:=aaL.mp h1
 have Ik:j<i:=by have:=(List.getElem?_eq_some_iff.mp hj).1;rw[aaB] at this;omega
 rw[abN,aaq Ik] at hj
 have e3:(D.made.map (·.nm))[i]?=some q.nm:=by rw[aae,hi];rfl
 have:=(abY (List.getElem?_eq_some_iff.mp hj).1 I.nd).mp (hj.trans e3.symm)
 omega
theorem yV(I:Inv D){x y:Str}(hx:x∈D.names)(hy:y∈D.iC x):y∈D.names:=by
 obtain⟨q,hq,rfl⟩:=List.mem_map.mp hx
 obtain⟨i,hi⟩:=aaL.mp hq
 exact(acd i D.made).map _ |>.subset (I.before i q hi y hy)
theorem take(I:Inv D){s x:Str}(hs:s∈D.stores)(hx:x∈D.names):Inv (D.take s x):=by
 have cm:∀y∈D.mQ s x,(y=x∨y∈D.iC x)∧y∉D.held s:=fun y hy=>by
  obtain⟨h1,h2⟩:=aam.mp hy
  refine⟨?_,aau h2⟩
  rcases Wl.mp h1 with h|h
  ·exact .inr (aau (aam.mp h).2)
  ·exact .inl (by simpa using h)
 have Za:∀y,y=x∨y∈D.iC x→y∈D.held s++D.mQ s x:=fun y hy=>by
  by_cases h:y∈D.held s
  ·exact YI _ h
  ·refine aaA _ (aam.mpr ⟨?_,Vy h⟩)
   rcases hy with rfl|hy
   ·simp
   ·exact YI _ (aam.mpr ⟨I.yV hx hy,Vy hy⟩)
 refine⟨I.nd,I.HG,I.refs,I.rank,I.before,I.trans,I.stN,fun t ht z hz=>?_,fun t ht=>?_⟩
 ·have hz:z∈(if t=s then D.held s++D.mQ s x else D.held t):=hz
  show z∈D.names∧∀y∈D.iC z,y∈(if t=s then D.held s++D.mQ s x else D.held t)
  by_cases e:t=s
  ·rw[aaq e] at hz ⊢
   rcases Wl.mp hz with hz|hz
   ·obtain⟨h1,h2⟩:=I.k_ s hs z hz
    exact⟨h1,fun y hy=>YI _ (h2 y hy)⟩
   ·obtain⟨h1,_⟩:=cm z hz
    rcases h1 with rfl|h1
    ·exact⟨hx,fun y hy=>Za y (.inr hy)⟩
    ·exact⟨I.yV hx h1,fun y hy=>Za y (.inr (I.trans x hx z h1 y hy))⟩
  ·rw[aal e] at hz ⊢
   exact I.k_ t ht z hz
 ·show(if t=s then D.held s++D.mQ s x else D.held t).Nodup
  by_cases e:t=s
  ·rw[aaq e,aaZ]
   refine⟨I.uU s hs,?_,fun a ha b hb z=>(cm b hb).2 (z▸ha)⟩
   refine ab4 aaU ?_
   rw[aaZ]
   refine⟨ab4 aaU I.nd,by simp,fun a ha b hb z=>?_⟩
   rw[List.mem_singleton.mp hb] at z
   subst z
   exact I.Br hx (aau (aam.mp ha).2)
  ·rw[aal e];exact I.uU t ht
theorem drop(I:Inv D){s x:Str}(hs:s∈D.stores)(hx:∀z∈D.held s,x∉D.iC z):Inv (D.drop s x):=by
 refine⟨I.nd,I.HG,I.refs,I.rank,I.before,I.trans,I.stN,fun t ht z hz=>?_,fun t ht=>?_⟩
 ·have hz:z∈(if t=s then(D.held s).filter (fun y=>y≠x) else D.held t):=hz
  show z∈D.names∧∀y∈D.iC z,y∈(if t=s then(D.held s).filter (fun y=>y≠x) else D.held t)
  by_cases e:t=s
  ·rw[aaq e] at hz ⊢
   have hz:=(aam.mp hz).1
   obtain⟨h1,h2⟩:=I.k_ s hs z hz
   exact⟨h1,fun y hy=>aam.mpr ⟨h2 y hy,Vy fun e=>hx z hz (e▸hy)⟩⟩
  ·rw[aal e] at hz ⊢
   exact I.k_ t ht z hz
 ·show(if t=s then(D.held s).filter (fun y=>y≠x) else D.held t).Nodup
  by_cases e:t=s
  ·rw[aaq e];exact ab4 aaU (I.uU s hs)
  ·rw[aal e];exact I.uU t ht
theorem begin(I:Inv D){s:Str}(hs:s∉D.stores):Inv (D.begin s):=by
 refine⟨I.nd,I.HG,I.refs,I.rank,I.before,I.trans,?_,fun t ht z hz=>?_,fun t ht=>?_⟩
 ·show(D.stores++[s]).Nodup
  rw[aaZ]
  exact⟨I.stN,by simp,fun a ha b hb e=>hs (by rw[←List.mem_singleton.mp hb,←e];exact ha)⟩
 ·have hz:z∈(if t=s then[] else D.held t):=hz
  show z∈D.names∧∀y∈D.iC z,y∈(if t=s then[] else D.held t)
  by_cases e:t=s
  ·rw[aaq e] at hz;cases hz
  ·rw[aal e] at hz ⊢
   rcases Wl.mp ht with ht|ht
   ·exact I.k_ t ht z hz
   ·exact absurd (List.mem_singleton.mp ht) e
 ·show(if t=s then[] else D.held t).Nodup
  by_cases e:t=s
  ·rw[aaq e];exact abg
  ·rw[aal e]
   rcases Wl.mp ht with ht|ht
   ·exact I.uU t ht
   ·exact absurd (List.mem_singleton.mp ht) e
theorem Bs(I:Inv D){s x:Str}{xs:List Str}(hs:s∈D.stores)(h:D.has s=xs++[x]):∀z∈D.held s,x∉D.iC z:=by
 intro z hz hx
 obtain⟨Uk,_⟩:=I.k_ s hs z hz
 obtain⟨q,hq,rfl⟩:=List.mem_map.mp Uk
 obtain⟨i,hi⟩:=aaL.mp hq
 have h1:=I.before i q hi x hx
 have e:D.names=(D.made.take i).map (·.nm)++q.nm::(D.made.drop (i+1)).map (·.nm):=by
  have A5:=(List.getElem?_eq_some_iff.mp hi).1
  unfold Dk.names
  conv=>lhs;rw[←aby i D.made,aaP A5,(List.getElem?_eq_some_iff.mp hi).2]
  rw[aat,aaw]
 have hn:=I.nd
 rw[e,aaZ,aaX] at hn
 unfold Dk.has at h
 rw[e,aaH,YK (p:=fun y=>decide (y∈D.held s)) (Vy hz)] at h
 have hl:x∈q.nm::((D.made.drop (i+1)).map (·.nm)).filter fun y=>decide (y∈D.held s):=by
  have h2:=aa2 List.getLast? h
  rw[List.getLast?_append,List.getLast?_append] at h2
  have h3:(q.nm::((D.made.drop (i+1)).map (·.nm)).filter fun y=>decide (y∈D.held s)).getLast?=some x:=by
   cases e4:(q.nm::((D.made.drop (i+1)).map (·.nm)).filter fun y=>decide (y∈D.held s)).getLast? with
   | none=>simp at e4
   | some y=>rw[e4] at h2;simpa using h2
  exact List.mem_of_getLast? h3
 have Il:x∈q.nm::(D.made.drop (i+1)).map (·.nm):=by
  rcases Wg.mp hl with z|z
  ·rw[z];exact aav
  ·exact aaj _ (aam.mp z).1
 exact hn.2.2 x h1 x Il rfl
end Inv
end PM
namespace PK
open PySem L2
set_option genInjectivity false
set_option genSizeOf false
set_option genSizeOfSpec false
noncomputable def top(i:Nat):Stmt:=PySem.Challenge.pw_patchkin_k09_whole_any_order.main.body.getD i (.Pass ⟨0,0,0,0⟩)
noncomputable section
noncomputable abbrev nL(l:List Str):List Str:=l
abbrev o4:=top 2
abbrev qj:=top 3
abbrev qk:=top 4
abbrev Fz:=top 5
noncomputable abbrev mR:=inClass (top 17) 0
noncomputable abbrev l7:=inClass (top 18) 0
abbrev kF:=top 19
abbrev jN:=top 20
abbrev nO:=top 21
abbrev rF:=top 22
abbrev kG:=top 23
abbrev nP:=top 24
abbrev l8:=top 25
abbrev zB:=top 26
abbrev oC:=top 27
abbrev ql:=top 28
abbrev uY:=top 29
noncomputable abbrev l9:=inClass (top 30) 0
noncomputable abbrev l_:=inClass (top 30) 1
noncomputable abbrev kL:=inClass (top 30) 2
abbrev qm:=top 34
abbrev nQ:=top 35
abbrev o5:=top 36
abbrev rG:=top 37
abbrev jQ:=top 38
noncomputable abbrev mS:=inClass (top 39) 0
noncomputable abbrev qo:=inClass (top 39) 1
noncomputable abbrev tK:=inClass (top 39) 2
noncomputable abbrev nR:=inClass (top 39) 3
noncomputable abbrev qp:=inClass (top 39) 4
noncomputable abbrev my:=inClass (top 39) 5
noncomputable abbrev qr:=inClass (top 39) 6
noncomputable abbrev rH:=inClass (top 39) 7
noncomputable abbrev oE:=inClass (top 39) 8
noncomputable abbrev rJ:=inClass (top 39) 9
noncomputable abbrev nz:=inClass (top 39) 10
noncomputable abbrev uZ:=inClass (top 39) 12
noncomputable abbrev qt:=inClass (top 39) 13
noncomputable abbrev mT:=inClass (top 39) 14
noncomputable abbrev ki:=inClass (top 39) 16
noncomputable abbrev mU:=inClass (top 39) 17
noncomputable abbrev kZ:=inClass (top 39) 18
noncomputable abbrev lH:=inClass (top 39) 19
noncomputable abbrev lI:=inClass (top 39) 20
noncomputable abbrev ma:=inClass (top 39) 21
noncomputable abbrev rK:=inClass (top 39) 22
abbrev nS:=top 41
abbrev rL:=top 42
abbrev rM:=top 43
abbrev oF:=top 44
abbrev rN:=top 45
abbrev oG:=top 46
abbrev mH:=top 47
abbrev qu:=top 48
abbrev mV:=top 49
abbrev lJ:=top 50
abbrev me:=top 51
abbrev oH:=top 52
abbrev qv:=top 53
abbrev mf:=top 54
abbrev D1:=top 55
abbrev yz:=nL ["self","name","text","upper_name","lower_name"]
theorem wB:gw yz ["self","name","text","upper_name","lower_name"] (gb mR):=mw
abbrev wC:=nL ["self","name","file","puts","cuts","other"]
theorem u0:gw wC ["self","name","file","puts","cuts","other"] (gb l7):=mw
noncomputable abbrev pH:=nL ["patch","names","line","name"]
theorem kj:gw pH ["patch"] (gb kF):=mw
abbrev ni:=nL ["patch","leant","name"]
theorem kx:gw ni ["patch"] (gb jN):=mw
noncomputable abbrev zC:=nL ["patches","taken_back","live","patch"]
theorem kU:gw zC ["patches"] (gb nO):=mw
abbrev D2:=nL ["patches","file","lines","patch"]
theorem qw:gw D2 ["patches","file"] (gb rF):=mw
noncomputable abbrev pI:=nL ["patches","file","live","gone","patch","name","line"]
theorem jg:gw pI ["patches","file"] (gb kG):=mw
abbrev wD:=nL ["lines","straight","line"]
theorem kl:gw wD ["lines"] (gb l8):=mw
noncomputable abbrev JM:=nL ["names","ahead","found","name"]
theorem wF:gw JM ["names","ahead"] (gb zB):=mw
abbrev xB:=nL ["lines","straight","ahead","line","climb","name","missing","other"]
theorem jC:gw xB ["lines"] (gb oC):=mw
abbrev Cc:=nL ["waiting","name"]
theorem tL:gw Cc ["waiting"] (gb ql):=mw
abbrev D3:=nL ["lines","ahead","by_name","waiting","line","row","name","other"]
theorem lb:gw D3 ["lines","ahead"] (gb uY):=mw
abbrev wG:=nL ["self","patches","file"]
theorem u5:gw wG ["self","patches","file"] (gb l9):=mw
abbrev wH:=nL ["self","first","second"]
theorem u9:gw wH ["self","first","second"] (gb l_):=mw
abbrev tq:=nL ["self","pairs","first","second"]
theorem jD:gw tq ["self"] (gb kL):=mw
abbrev Cd:=nL ["name","sign"]
theorem tM:gw Cd ["name"] (gb qm):=mw
abbrev zD:=nL ["places","size","least","place"]
theorem kW:gw zD ["places","size"] (gb nQ):=mw
abbrev AK:=nL ["kept_names","size","behind","place"]
theorem nU:gw AK ["kept_names","size"] (gb o5):=mw
abbrev D5:=nL ["patch","texts","kept_names","behind","lines","upper_name","place","text"]
theorem jE:gw D5 ["patch","texts","kept_names"] (gb rG):=mw
abbrev mi:=nL ["patch","file","row","texts","kept_names","left","first","second","cuts","line"]
theorem iL:gw mi ["patch","file","row","texts"] (gb jQ):=mw
abbrev yA:=nL ["self"]
theorem wI:gw yA ["self"] (gb mS):=mw
abbrev Ce:=nL ["self","store"]
theorem AL:gw Ce ["self","store"] (gb qo):=mw
abbrev zE:=nL ["self"]
theorem yB:gw zE ["self"] (gb nR):=mw
abbrev zF:=nL ["self","store","name"]
theorem xC:gw zF ["self","store"] (gb qp):=mw
abbrev tN:=nL ["self","store","patch","file","texts","sight","line"]
theorem nV:gw tN ["self","store","patch","file","texts"] (gb my):=mw
abbrev zG:=nL ["self","store","patch","file","places","row","place"]
theorem rO:gw zG ["self","store","patch","file","places"] (gb qr):=mw
abbrev D6:=nL ["self","store","patch","other"]
theorem Cf:gw D6 ["self","store","patch","other"] (gb rH):=mw
noncomputable abbrev xD:=nL ["self","store","source","patch","wanted","came","name"]
theorem lK:gw xD ["self","store","source","patch"] (gb oE):=mw
abbrev D7:=nL ["self","store","patch","name"]
theorem u_:gw D7 ["self","store","patch"] (gb rJ):=mw
abbrev va:=nL ["self","patch","name"]
theorem tO:gw va ["self","patch"] (gb nz):=mw
abbrev zH:=nL ["self","store","file","line"]
theorem xE:gw zH ["self","store","file"] (gb qt):=mw
abbrev yC:=nL ["self","store","file"]
theorem wJ:gw yC ["self","store","file"] (gb mT):=mw
abbrev oI:=nL ["self","store","name"]
theorem nX:gw oI ["self","store"] (gb ki):=mw
abbrev yD:=nL ["self","store","file"]
theorem wK:gw yD ["self","store","file"] (gb mU):=mw
abbrev uf:=nL ["self","store"]
theorem tw:gw uf ["self","store"] (gb kZ):=mw
abbrev vb:=nL ["self","patch"]
theorem ug:gw vb ["self","patch"] (gb lH):=mw
abbrev vc:=nL ["self","store","patch"]
theorem uh:gw vc ["self","store","patch"] (gb lI):=mw
abbrev wL:=nL ["self","patch","files","name"]
theorem oJ:gw wL ["self","patch","files"] (gb ma):=mw
abbrev D8:=nL ["self","store","patch","needs","name"]
theorem qx:gw D8 ["self","store","patch"] (gb rK):=mw
abbrev zI:=nL ["script","k"]
theorem yE:gw zI ["script","k"] (gb nS):=mw
abbrev D9:=nL ["cell","k","bound","stir"]
theorem qy:gw D9 ["cell","k","bound"] (gb rL):=mw
abbrev D_:=nL ["cell","k","signs","size","base","far","found","j"]
theorem jn:gw D_ ["cell","k"] (gb rM):=mw
abbrev xF:=nL ["cell","signs","size","j"]
theorem lL:gw xF ["cell"] (gb oF):=mw
abbrev Ea:=nL ["texts","cell","at","line","more","way","out","turned"]
theorem j1:gw Ea ["texts","cell"] (gb rN):=mw
noncomputable abbrev xG:=nL ["desk","stores","files","cell","name","backs","store","file","way","more","row","source","names","line"]
theorem jo:gw xG ["desk","stores","files","cell","name","backs"] (gb oG):=mw
abbrev rP:=nL ["script","first","most","backs","desk","stores","files","store","k","cell"]
theorem jb:gw rP ["script","first","most","backs"] (gb mH):=mw
abbrev Cg:=nL ["found"]
theorem AM:gw Cg ["found"] (gb qu):=mw
abbrev yG:=nL ["row","line"]
theorem pJ:gw yG ["row"] (gb mV):=mw
abbrev vd:=nL ["found","pair"]
theorem nY:gw vd ["found"] (gb lJ):=mw
abbrev wM:=nL ["found","due","name"]
theorem oK:gw wM ["found","due"] (gb me):=mw
abbrev xH:=nL ["desk","store","files","file"]
theorem ve:gw xH ["desk","store","files"] (gb oH):=mw
noncomputable abbrev Ci:=nL ["names","cell","left","found","k","at"]
theorem jJ:gw Ci ["names","cell"] (gb qv):=mw
abbrev wN:=nL ["desk","store","sources","order","name","source"]
theorem lM:gw wN ["desk","store","sources","order"] (gb mf):=mw
noncomputable abbrev GG:=nL ["script","built","desk","names","there","ones","k","last","due","pair","store","name","one"]
theorem lN:gw GG ["script"] (gb D1):=mw
structure Txt(mg:Qqx):Prop where
 jh:mg "len"=none
 kX:mg "range"=none
 Ro:mg "max"=none
 jc:mg "isinstance"=none
 Rp:mg "int"=none
 Oy:mg "bool"=none
 rQ:mg "list"=none
 GH:mg "tuple"=none
 JN:mg "str"=none
 zJ:mg "reversed"=none
 Rq:mg "sorted"=none
 YN:mg "set"=none
 Eb:mg "enumerate"=none
 LX:mg "ValueError"=none
structure Ad where
 AN:Addr
 AO:FuncData
 Cj:Addr
 Ck:FuncData
 Cm:Addr
 Cn:FuncData
 JO:Addr
 JP:FuncData
 mW:Addr
 qR:FuncData
 mj:Addr
 pK:FuncData
 pL:Addr
 pM:FuncData
 nj:Addr
 nq:FuncData
 rR:Addr
 rS:FuncData
 xI:Addr
 xJ:FuncData
 pN:Addr
 pO:FuncData
 ui:Addr
 uj:FuncData
 pP:Addr
 pQ:FuncData
 Ec:Addr
 Ed:FuncData
 xK:Addr
 xM:FuncData
 vg:Addr
 vj:FuncData
 Ee:Addr
 Ef:FuncData
 ml:Addr
 pR:FuncData
 pS:Addr
 pT:FuncData
 nr:Addr
 nu:FuncData
 vk:Addr
 vp:FuncData
 rV:Addr
 rW:FuncData
 tP:Addr
 tQ:FuncData
 xN:Addr
 xO:FuncData
 pU:Addr
 pV:FuncData
 mX:Addr
 qS:FuncData
 vq:Addr
 vt:FuncData
 AQ:Addr
 AR:FuncData
 rX:Addr
 rY:FuncData
 zK:Addr
 zL:FuncData
 tR:Addr
 tS:FuncData
 zM:Addr
 zN:FuncData
 xP:Addr
 xQ:FuncData
 xR:Addr
 xS:FuncData
 xT:Addr
 xU:FuncData
 vw:Addr
 vy:FuncData
 Co:Addr
 Cp:FuncData
 zO:Addr
 zP:FuncData
 qT:Addr
 qU:FuncData
 oM:Addr
 oN:FuncData
 qV:Addr
 qW:FuncData
 nZ:Addr
 n1:FuncData
 oO:Addr
 oP:FuncData
 oQ:Addr
 oR:FuncData
 pW:Addr
 pX:FuncData
 xV:Addr
 xW:FuncData
 rZ:Addr
 r9:FuncData
 xX:Addr
 xY:FuncData
 xZ:Addr
 x9:FuncData
 x_:Addr
 ya:FuncData
 yb:Addr
 yc:FuncData
 yd:Addr
 ye:FuncData
 yf:Addr
 yg:FuncData
 vz:Addr
 vA:FuncData
 qX:Addr
 qY:FuncData
 oS:Addr
 oT:FuncData
 pY:Addr
 pZ:FuncData
 yh:Addr
 yi:FuncData
 vB:Addr
 vC:FuncData
 p0:Addr
 p3:FuncData
 gJ:Addr
 gP:Addr
 h_:Addr
 gr:Addr
 lO:Addr
 jA:Addr
 ju:Addr
 iQ:Addr
 jR:Addr
 n4:Addr
 lg:Addr
 uk:Addr
 sX:Addr
 nA:Tok
 lP:Tok
 z:Unit
structure Ok(K:Qqy)(mg:Qqx)(A:Ad):Prop where
 r_:DF K mg "counts_with" o4 A.AN A.AO ["text","new","below"]
 um:DF K mg "most_pairs" qj A.Cj A.Ck ["old","new"]
 uo:DF K mg "place_from" qk A.Cm A.Cn ["texts","text","start"]
 kept:DF K mg "kept" Fz A.JO A.JP ["old","new"]
 tT:DM K A.gJ "__init__" "Line.__init__" mR A.mW A.qR ["self","name","text","upper_name","lower_name"]
 lQ:DM K A.gP "__init__" "Patch.__init__" l7 A.mj A.pK ["self","name","file","puts","cuts","other"]
 sd:DF K mg "lines_named_by" kF A.pL A.pM ["patch"]
 oU:DF K mg "leans_straight_on" jN A.nj A.nq ["patch"]
 vD:DF K mg "live_patches" nO A.rR A.rS ["patches"]
 wO:DF K mg "lines_put" rF A.xI A.xJ ["patches","file"]
 se:DF K mg "standing_lines" kG A.pN A.pO ["patches","file"]
 HH:DF K mg "files_with_lines" nP A.ui A.uj ["patches"]
 sh:DF K mg "straight_ahead" l8 A.pP A.pQ ["lines"]
 joined:DF K mg "joined" zB A.Ec A.Ed ["names","ahead"]
 Bt:DF K mg "all_ahead" oC A.xK A.xM ["lines"]
 zQ:DF K mg "first_free" ql A.vg A.vj ["waiting"]
 JQ:DF K mg "row_of" uY A.Ee A.Ef ["lines","ahead"]
 si:DM K A.h_ "__init__" "Sight.__init__" l9 A.ml A.pR ["self","patches","file"]
 sj:DM K A.h_ "is_ahead" "Sight.is_ahead" l_ A.pS A.pT ["self","first","second"]
 jF:DM K A.h_ "quarrelling" "Sight.quarrelling" kL A.nr A.nu ["self"]
 uq:DF K mg "check_name" qm A.vk A.vp ["name"]
 vE:DF K mg "check_places" nQ A.rV A.rW ["places","size"]
 yj:DF K mg "kept_behind" o5 A.tP A.tQ ["kept_names","size"]
 Bu:DF K mg "new_lines" rG A.xN A.xO ["patch","texts","kept_names"]
 sr:DF K mg "changing_patch" jQ A.pU A.pV ["patch","file","row","texts"]
 tU:DM K A.gr "__init__" "Desk.__init__" mS A.mX A.qS ["self"]
 ur:DM K A.gr "begin" "Desk.begin" qo A.vq A.vt ["self","store"]
 M3:DM K A.gr "stores" "Desk.stores" tK A.AQ A.AR ["self"]
 qz:DM K A.gr "patches" "Desk.patches" nR A.rX A.rY ["self"]
 ky:DM K A.gr "has" "Desk.has" qp A.zK A.zL ["self","store"]
 yk:DM K A.gr "record" "Desk.record" my A.tR A.tS ["self","store","patch","file","texts"]
 Eg:DM K A.gr "cut" "Desk.cut" qr A.zM A.zN ["self","store","patch","file","places"]
 Bv:DM K A.gr "back" "Desk.back" rH A.xP A.xQ ["self","store","patch","other"]
 wQ:DM K A.gr "take" "Desk.take" oE A.xR A.xS ["self","store","source","patch"]
 Bw:DM K A.gr "drop" "Desk.drop" rJ A.xT A.xU ["self","store","patch"]
 zR:DM K A.gr "leans" "Desk.leans" nz A.vw A.vy ["self","patch"]
 Oz:DM K A.gr "files" "Desk.files" uZ A.Co A.Cp ["self","store"]
 zS:DM K A.gr "row" "Desk.row" qt A.zO A.zP ["self","store","file"]
 o6:DM K A.gr "quarrels" "Desk.quarrels" mT A.qT A.qU ["self","store","file"]
 qZ:DM K A.gr "patches_of" "Desk.patches_of" ki A.oM A.oN ["self","store"]
 kR:DM K A.gr "sight_of" "Desk.sight_of" mU A.qV A.qW ["self","store","file"]
 iR:DM K A.gr "check_store" "Desk.check_store" kZ A.nZ A.n1 ["self","store"]
 q0:DM K A.gr "check_made" "Desk.check_made" lH A.oO A.oP ["self","patch"]
 kY:DM K A.gr "check_held" "Desk.check_held" lI A.oQ A.oR ["self","store","patch"]
 lR:DM K A.gr "check_new" "Desk.check_new" ma A.pW A.pX ["self","patch","files"]
 sY:DM K A.gr "keep" "Desk.keep" rK A.xV A.xW ["self","store","patch"]
 iX:DF K mg "_law_cell_at" nS A.rZ A.r9 ["script","k"]
 wR:DF K mg "_law_draw" rL A.xX A.xY ["cell","k","bound"]
 p6:DF K mg "_law_name" rM A.xZ A.x9 ["cell","k"]
 wU:DF K mg "_law_text" oF A.x_ A.ya ["cell"]
 By:DF K mg "_law_edit" rN A.yb A.yc ["texts","cell"]
 Bz:DF K mg "_law_deed" oG A.yd A.ye ["desk","stores","files","cell","name","backs"]
 BA:DF K mg "_law_desk" mH A.yf A.yg ["script","first","most","backs"]
 qA:DF K mg "_law_whole" qu A.vz A.vA ["found"]
 tV:DF K mg "_law_row_form" mV A.qX A.qY ["row"]
 q8:DF K mg "_law_pairs_form" lJ A.oS A.oT ["found"]
 su:DF K mg "_law_names_are" me A.pY A.pZ ["found","due"]
 wV:DF K mg "_law_seen" oH A.yh A.yi ["desk","store","files"]
 uu:DF K mg "_law_mixed" qv A.vB A.vC ["names","cell"]
 n9:DF K mg "_law_takes_all" mf A.p0 A.p3 ["desk","store","sources","order"]
 iM:EY K A.gJ
 OA:Mk K A.gJ A.mW
 OB:mg "Line"=some (.ref A.gJ)
 gH:jO K A.gJ "name"
 jG:jO K A.gJ "text"
 iD:jO K A.gJ "upper_name"
 iE:jO K A.gJ "lower_name"
 jq:EY K A.gP
 Cq:Mk K A.gP A.mj
 Cr:mg "Patch"=some (.ref A.gP)
 iW:jO K A.gP "name"
 j9:jO K A.gP "file"
 jK:jO K A.gP "puts"
 jL:jO K A.gP "cuts"
 iY:jO K A.gP "other"
 j2:EY K A.h_
 LY:Mk K A.h_ A.ml
 LZ:mg "Sight"=some (.ref A.h_)
 jw:jO K A.h_ "ahead"
 ip:jO K A.h_ "lines"
 gE:EY K A.gr
 OC:Mk K A.gr A.mX
 OD:mg "Desk"=some (.ref A.gr)
 iO:jO K A.gr "made"
 jd:jO K A.gr "needs"
 iw:jO K A.gr "held"
 L0:Exc K mg "PatchError" A.lO
 BB:Exc K mg "BadName" A.jA
 yl:Exc K mg "NameTaken" A.ju
 HI:Exc K mg "NoStore" A.iQ
 BC:Exc K mg "NoPatch" A.jR
 JR:Exc K mg "NoLine" A.n4
 Eh:Exc K mg "Unsettled" A.lg
 JS:Exc K mg "Same" A.uk
 L1:Exc K mg "Leant" A.sX
 Cs:mg "NAME_SIGNS"=some (.str (Str.ofString "abcdefghijklmnopqrstuvwxyz0123456789") A.nA)
 sv:mg "LONGEST_NAME"=some (.int 12 A.lP)
 z:True
end
open PySem L2 PM
noncomputable def nk(n:Nm):List Key:=[Sum.inr n.1,Sum.inl (n.2:Int)]
theorem o7{a b:Nm}(h:nk a=nk b):a=b:=by
 unfold nk at h
 injection h with h1 h2
 injection h2 with h2 _
 exact Prod.ext (aci h1) (by have:=Sum.inl.inj h2;omega)
noncomputable abbrev nT(n:Nm):HO:=.tup ((nk n).map kV)
def lx(H:Hp)(v:V)(n:Nm):Prop:=∃t,v=.ref t∧H t=some (nT n)
def FA(H:Hp)(v:V):Option Nm→Prop
 | none=>v=.jl
 | some n=>lx H v n
def T2(v:V):Option Str→Prop
 | none=>v=.jl
 | some x=>v=.str x
noncomputable def L3(a b c d:V):List (Str×V):=[("name",a),("text",b),("upper_name",c),("lower_name",d)]
theorem iZ{a b c d:V}:(L3 a b c d).lookup ("name":Str)=some a:=by kernel_rfl
theorem zT{a b c d:V}:(L3 a b c d).lookup ("text":Str)=some b:=by kernel_rfl
theorem FC{a b c d:V}:(L3 a b c d).lookup ("upper_name":Str)=some c:=by kernel_rfl
theorem FD{a b c d:V}:(L3 a b c d).lookup ("lower_name":Str)=some d:=by kernel_rfl
noncomputable def L4(a b c d e:V):List (Str×V):=[("name",a),("file",b),("puts",c),("cuts",d),("other",e)]
theorem sx{a b c d e:V}:(L4 a b c d e).lookup ("name":Str)=some a:=by kernel_rfl
theorem JT{a b c d e:V}:(L4 a b c d e).lookup ("file":Str)=some b:=by kernel_rfl
theorem Ei{a b c d e:V}:(L4 a b c d e).lookup ("puts":Str)=some c:=by kernel_rfl
theorem Ej{a b c d e:V}:(L4 a b c d e).lookup ("cuts":Str)=some d:=by kernel_rfl
theorem sZ{a b c d e:V}:(L4 a b c d e).lookup ("other":Str)=some e:=by kernel_rfl
def mY(A:Ad)(H:Hp)(a:Addr)(l:Ln):Prop:=∃dx vn vu vl,H a=some (.ins A.gJ dx (L3 vn (.str l.tx) vu vl))∧lx H vn l.nm∧FA H vu l.up∧FA H vl l.lo
def qB(A:Ad)(H:Hp)(a:Addr)(ls:List Ln):Prop:=∃as:List Addr,H a=some (.lst (as.map V.ref))∧Paired (mY A H) as ls
def zU(H:Hp)(a:Addr)(ns:List Nm):Prop:=∃vs,H a=some (.lst vs)∧Paired (lx H) vs ns
def oa(A:Ad)(H:Hp)(a:Addr)(p:Pt):Prop:=∃dx vf pu cu vo,H a=some (.ins A.gP dx (L4 (.str p.nm) vf (.ref pu) (.ref cu) vo))∧T2 vf p.file∧qB A H pu p.iB∧zU H cu p.j0∧T2 vo p.other
def yH(A:Ad)(H:Hp)(a:Addr)(ps:List Pt):Prop:=∃as:List Addr,H a=some (.lst (as.map V.ref))∧Paired (oa A H) as ps
section
variable{A:Ad}{H H':Hp}{a:Addr}
theorem lx.same{v:V}{n:Nm}(x:lx H v n)(s:gj H H'):lx H' v n:=by obtain⟨t,e,h⟩:=x;exact⟨t,e,s _ _ h⟩
theorem FA.same{v:V}{o:Option Nm}(x:FA H v o)(s:gj H H'):FA H' v o:=by
 cases o with
 | none=>exact x
 | some n=>exact lx.same x s
theorem mY.same{l:Ln}(x:mY A H a l)(s:gj H H'):mY A H' a l:=by
 obtain⟨dx,vn,vu,vl,h,h1,h2,h3⟩:=x
 exact⟨dx,vn,vu,vl,s _ _ h,h1.same s,h2.same s,h3.same s⟩
theorem qB.same{ls:List Ln}(x:qB A H a ls)(s:gj H H'):qB A H' a ls:=by
 obtain⟨as,h,p⟩:=x
 exact⟨as,s _ _ h,Paired.kJ p fun _ _ z=>z.same s⟩
theorem zU.same{ns:List Nm}(x:zU H a ns)(s:gj H H'):zU H' a ns:=by
 obtain⟨vs,h,p⟩:=x
 exact⟨vs,s _ _ h,Paired.kJ p fun _ _ z=>z.same s⟩
theorem oa.same{p:Pt}(x:oa A H a p)(s:gj H H'):oa A H' a p:=by
 obtain⟨dx,vf,pu,cu,vo,h,h1,h2,h3,h4⟩:=x
 exact⟨dx,vf,pu,cu,vo,s _ _ h,h1,h2.same s,h3.same s,h4⟩
theorem yH.same{ps:List Pt}(x:yH A H a ps)(s:gj H H'):yH A H' a ps:=by
 obtain⟨as,h,p⟩:=x
 exact⟨as,s _ _ h,Paired.kJ p fun _ _ z=>z.same s⟩
end
theorem ix{α β:Type}{F:α→β→Prop}{xs:List α}{ys:List β}(p:Paired F xs ys):∀{i:Nat} {x:α},xs[i]?=some x→∃y,ys[i]?=some y∧F x y:=by
 induction p with
 | nil=>intro i x h;simp at h
 | cons f t ih=>
  intro i x h
  cases i with
  | zero=>simp at h;subst h;exact⟨_,rfl,f⟩
  | succ i=>simpa using ih (by simpa using h)
theorem lh{α β:Type}{F:α→β→Prop}{xs:List α}{ys:List β}(p:Paired F xs ys):∀{i:Nat} {y:β},ys[i]?=some y→∃x,xs[i]?=some x∧F x y:=by
 induction p with
 | nil=>intro i x h;simp at h
 | cons f t ih=>
  intro i x h
  cases i with
  | zero=>simp at h;subst h;exact⟨_,rfl,f⟩
  | succ i=>simpa using ih (by simpa using h)
theorem uv{α β:Type}{F:α→β→Prop}{xs zs:List α}{ys ws:List β}(p:Paired F xs ys)(q:Paired F zs ws):Paired F (xs++zs) (ys++ws):=by
 induction p with
 | nil=>exact q
 | cons f t ih=>exact .cons f ih
theorem iy{α β:Type}{F:α→β→Prop}{xs:List α}{ys:List β}{x:α}{y:β}(p:Paired F xs ys)(h:F x y):Paired F (xs++[x]) (ys++[y]):=uv p (.cons h .nil)
theorem zV{α β:Type}{F:α→β→Prop}{xs:List α}{ys:List β}(p:Paired F xs ys):Paired F xs.reverse ys.reverse:=by
 induction p with
 | nil=>exact .nil
 | cons f t ih=>rw[List.reverse_cons,List.reverse_cons];exact iy ih f
theorem j3{as:List Addr}{i:Nat}{v:V}(h:(as.map V.ref)[i]?=some v):∃b,as[i]?=some b∧v=.ref b:=by
 rw[aae] at h
 obtain⟨b,e,rfl⟩:=Option.map_eq_some_iff.mp h
 exact⟨b,e,rfl⟩
theorem T2.eq{v:V}{o:Option Str}(h:T2 v o)(f:Str):decide (v=.str f)=decide (o=some f):=by
 cases o with
 | none=>rw[show v=.jl from h,aab (fun z=>by cases z),aab (fun z=>by cases z)]
 | some x=>
  rw[show v=.str x from h]
  by_cases e:x=f
  ·subst e;rw[Vy rfl,Vy rfl]
  ·rw[aab (fun z=>e (V.str.inj z)),aab (fun z=>e (aaz z))]
theorem M4{α:Type}{xs:List α}{x:α}{i:Nat}(h:xs.length≤i:=by assumption):(xs++[x]).length≤i+1:=by rw[Vq];exact Nat.succ_le_succ h
def uw(n:Nat):Prop:=n≤4000
theorem uw.sz{n:Nat}(h:uw n):n≤sizeLine:=aac h (by decide)
section
variable{P:Program}{w:World}{K:Qqy}{mg:Qqx}{base:Heap}{A:Ad}
def OE(A:Ad):Sp:=fun vs H Q _=>∃(a:Addr)(ps:List Pt),vs=[.ref a]∧yH A H a ps∧uw ps.length∧∀p H',gj H H'→H p=none→yH A H' p (live ps)→Q (.ref p) H'
def Tb(kvs:List (Key×V))(t:List Str):Prop:=∀x,(iN kvs (Sum.inr x)).isSome=decide (x∈t)
theorem Tb.put{kvs:List (Key×V)}{t:List Str}(h:Tb kvs t)(y:Str)(v:V):Tb (putK kvs (Sum.inr y) v) (y::t):=fun x=>by
 rw[j4]
 by_cases e:x=y
 ·subst e;rw[aaq rfl,Vy aav];rfl
 ·rw[aal (fun z=>e (aci z)),h x]
  by_cases m:x∈t
  ·rw[Vy m,Vy (aaj _ m)]
  ·rw[aab m,aab (fun z=>(Wg.mp z).elim e m)]
theorem FE(p:Pt)(r:List Pt)(t:List Str):qQ (p::r) t=if p.nm∈t then qQ r t else p::qQ r (match p.other with|some o=>o::t|none=>t):=rfl
theorem yI(T:Txt mg)(O:Ok K mg A):ij P w K mg base l5 1 A.rR A.rS ["patches"] (OE A):=by
 refine O.vD.f.p_ kU fun jm A0 outer s H vs Q E hr h=>?_
 obtain⟨a,ps,rfl,⟨as,ha,pa⟩,jI,q⟩:=h
 have hlen:=aan pa
 refine⟨_,(de (lu 1 kU nH)
   (de (lu 2 kU (iU d_))
   (de (iu aap rfl (LJ rfl T.zJ (a_ (pv 0) d_)) (rf 3 kU) (f_ (ir (jv (k9 (by exact iV hr) (gC (pv 3) rfl) (pv 1))) (de (gM (ow aaF aaQ aaR j8 (pv 2) (a_ (pv 3) d_)))
   (f_ (ir (jv (sR (gC (pv 3) rfl))) (f_ (jy (by exact iV hr) (pv 1) (gC (pv 3) rfl) kI rfl)) g_))) g_)))
   (f_ (gR (Fp rfl (by rfl) T.rQ (by rfl) T.zJ (a_ (pv 2) d_))))))),?_⟩
 refine M0 ?_;intro _ _ _
 intro t ht
 have s1:gj H (upd H t (.dK [])):=(gj.refl H).new ht
 refine⟨L2.jI,fun l hl=>?_⟩
 have s2:gj H (upd (upd H t (.dK [])) l (.lst [])):=s1.new hl
 have ME:t≠l:=fun z=>by rw[z] at hl;rw[b_] at hl;cases hl
 refine⟨_,rfl,a,_,rfl,gF.of (s2 a _ ha),LK (K:=K) (a:=a) (xs:=as.map V.ref) (fun i σ H2=>∃(v:Option V)(kvs:List (Key×V))(tb:List Str)(ls:List Addr)(lp:List Pt),σ=[rr a,rr t,rr l,v]∧gj H H2∧H2 t=some (.dK kvs)∧Tb kvs tb∧kvs.length≤i∧H2 l=some (.lst (ls.map V.ref))∧ls.length≤i∧Paired (oa A H) ls lp∧lp++qQ (ps.reverse.drop i) tb=qQ ps.reverse [])
  ⟨none,[],[],[],[],rfl,s2,by rw[e_ ME];exact b_,(fun x=>rfl),Vx _,b_,Vx _,.nil,rfl⟩ (by rintro _ _ _ _ ⟨_,_,_,_,_,_,s3,_⟩;exact gF.of (s3 a _ ha)) ?_ ?_⟩
 ·rintro i v σ H2 hx ⟨v0,kvs,tb,ls,lp,rfl,s3,h1,h2,h3,h4,h5,h6,h7⟩
  rw[←List.map_reverse] at hx
  obtain⟨b,hb,rfl⟩:=j3 hx
  obtain⟨p,hp,dx,vf,pu,cu,vo,g1,g2,g3,g4,g5⟩:=ix (zV pa) hb
  have hi:i<ps.reverse.length:=(List.getElem?_eq_some_iff.mp hp).1
  have A5:i<4000:=by rw[abi] at hi;exact aas hi jI
  have hd:ps.reverse.drop i=p::ps.reverse.drop (i+1):=by rw[aaP hi];congr 1;exact(List.getElem?_eq_some_iff.mp hp).2
  rw[hd] at h7
  refine⟨_,rfl,b,A.gP,dx,_,_,rfl,s3 _ _ g1,O.jq,O.iW,sx,_,rfl,t,_,rfl,i7.k (k:=Sum.inr p.nm) h1,_,rfl,?_⟩
  rw[h2 p.nm]
  rw[FE] at h7
  by_cases hm:p.nm∈tb
  ·rw[aaq hm] at h7
   rw[Vy hm]
   exact jz ⟨_,kvs,tb,ls,lp,rfl,s3,h1,h2,by omega,h4,by omega,h6,h7⟩
  ·rw[aal hm] at h7
   rw[aab hm]
   refine l6 ?_
   refine⟨_,rfl,.inl ⟨rfl,_,gF.of h4⟩,_,rfl,l,_,_,rfl,rfl,h4,by rw[So];exact abm h5 (Nat.lt_trans A5 (by decide)),?_⟩
   have Wm:H l=none:=s1.free hl
   have s4:gj H (upd H2 l (.lst (ls.map V.ref++[V.ref b]))):=s3.upd Wm
   have Mz:upd H2 l (.lst (ls.map V.ref++[V.ref b])) t=some (.dK kvs):=by rw[e_ ME];exact h1
   have e4:upd H2 l (.lst (ls.map V.ref++[V.ref b])) l=some (.lst ((ls++[b]).map V.ref)):=by rw[b_,aat];rfl
   have pp:Paired (oa A H) (ls++[b]) (lp++[p]):=iy h6 ⟨dx,vf,pu,cu,vo,g1,g2,g3,g4,g5⟩
   have Zb:(ls++[b]).length≤i+1:=M4
   refine⟨_,rfl,b,A.gP,dx,_,_,rfl,s4 _ _ g1,O.jq,O.iY,sZ,_,rfl,?_⟩
   cases ho:p.other with
   | none=>
    rw[ho] at g5 h7
    rw[show vo=V.jl from g5]
    exact⟨_,kvs,tb,_,_,rfl,s4,Mz,h2,by omega,e4,Zb,pp,by rw[aaK];exact h7⟩
   | some x=>
    rw[ho] at g5 h7
    rw[show vo=V.str x from g5] at g1 ⊢
    refine⟨_,rfl,_,rfl,b,A.gP,dx,_,_,rfl,s4 _ _ g1,O.jq,O.iY,sZ,t,_,rfl,nv.k (k:=Sum.inr x) Mz (abm h3 (Nat.lt_trans A5 (by decide))),?_⟩
    have Zc:=js kvs (Sum.inr x:Key) (V.bl true)
    have htH:H t=none:=ht
    exact⟨_,_,x::tb,_,_,rfl,s4.upd htH,b_,h2.put x _,by omega,by rw[e_ ME.symm];exact e4,Zb,pp,by rw[aaK];exact h7⟩
 ·rintro σ H2 ⟨v0,kvs,tb,ls,lp,rfl,s3,h1,h2,h3,h4,h5,h6,h7⟩
  rw[So] at h3 h5 h7
  rw[hlen,←abi,acg] at h7
  have h7:lp=qQ ps.reverse []:=by rw[show qQ [] tb=[] from rfl,aaJ] at h7;exact h7
  refine⟨_,rfl,l,_,rfl,gF.of h4,fun p hp=>?_⟩
  have s4:=s3.new (o:=.lst (ls.map V.ref).reverse) hp
  refine q p _ s4 (s3.free hp) ⟨ls.reverse,by rw[b_,List.map_reverse],?_⟩
  unfold live
  rw[←h7]
  exact Paired.kJ (zV h6) fun _ _ z=>z.same s4
theorem sy{α β:Type}{f:α→List β}{ps qs:List α}(h:ps.Sublist qs):(ps.flatMap f).Sublist (qs.flatMap f):=by
 induction h with
 | slnil=>exact aaC _
 | cons x _ ih=>rw[aaD];exact ih.trans (aa1 _ _)
 | cons_cons x _ ih=>rw[aaD,aaD];exact(aaC _).append ih
structure Small(ps:List Pt):Prop where
 many:uw ps.length
 iB:uw (ps.flatMap (·.iB)).length
 j0:uw (ps.flatMap (·.j0)).length
theorem Small.sub{ps qs:List Pt}(h:ps.Sublist qs)(s:Small qs):Small ps:=⟨aac h.length_le s.many,aac (sy h).length_le s.iB,aac (sy h).length_le s.j0⟩
theorem qC(ps:List Pt)(f:Str):(gO ps f).length≤(ps.flatMap (·.iB)).length:=(sy aaU).length_le
theorem AS(ps:List Pt)(p:Pt)(f:Str):gO (ps++[p]) f=gO ps f++if p.file=some f then p.iB else[]:=by
 unfold gO
 rw[aaH,abI]
 by_cases h:p.file=some f
 ·rw[aaq h,YK (by simpa using h),aaY,aaD,abB,aaJ]
 ·rw[aal h,aag (by simpa using h),aaY,abB]
theorem take_snoc{α:Type}{xs:List α}{i:Nat}{x:α}(h:xs[i]?=some x):xs.take (i+1)=xs.take i++[x]:=by rw[List.take_add_one,h];rfl
def Qf(kvs:List (List Key×V))(ns:List Nm):Prop:=∀n,(iN kvs (nk n)).isSome=decide (n∈ns)
theorem Qf.put{kvs:List (List Key×V)}{ns:List Nm}(h:Qf kvs ns)(y:Nm)(v:V):Qf (putK kvs (nk y) v) (ns++[y]):=fun x=>by
 rw[j4]
 by_cases e:x=y
 ·subst e;rw[aaq rfl,Vy (by simp)];rfl
 ·rw[aal (fun z=>e (o7 z)),h x]
  by_cases m:x∈ns
  ·rw[Vy m,Vy (YI _ m)]
  ·rw[aab m,aab (fun z=>(Wl.mp z).elim m fun z=>e (List.mem_singleton.mp z))]
def Rr(A:Ad):Sp:=fun vs H Q _=>∃(a:Addr)(ps:List Pt)(f:Str),vs=[.ref a,.str f]∧yH A H a ps∧Small ps∧∀p H',gj H H'→H p=none→qB A H' p (gO ps f)→Q (.ref p) H'
theorem vF(T:Txt mg)(O:Ok K mg A):ij P w K mg base l5 1 A.xI A.xJ ["patches","file"] (Rr A):=by
 refine O.wO.f.p_ qw fun jm A0 outer s H vs Q E hr h=>?_
 obtain⟨a,ps,f,rfl,⟨as,ha,pa⟩,sm,q⟩:=h
 have hlen:=aan pa
 refine⟨_,(de (lu 2 qw (iU d_))
   (de (iu aap rfl (ie (pv 0)) (rf 3 qw) (f_ (ir (ib lX (gC (pv 3) rfl) (pv 1) (iA _)) (f_ (gM (ow aaF PySem.F.slot_list_extend PySem.F.type_list_extend Bi (pv 2) (a_ (gC (pv 3) rfl) d_)))) g_)))
   (f_ (gR (pv 2))))),?_⟩
 refine DO ?_;intro _ _
 refine⟨L2.jI,fun l hl=>?_⟩
 have s1:gj H (upd H l (.lst [])):=(gj.refl H).new hl
 dsimp only [k7];refine Ht ?_;intro _
 let Jv:=fun(i:Nat) (σ:St) (H2:Hp)=>∃(v:Option V)(ls:List Addr),σ=[rr a,rs f,rr l,v]∧gj H H2∧H2 l=some (.lst (ls.map V.ref))∧Paired (mY A H) ls (gO (ps.take i) f)
 refine⟨_,rfl,a,rfl,⟨_,gF.of (s1 a _ ha)⟩,iH (K:=K) (a:=a) (xs:=as.map V.ref) Jv
  ⟨none,[],rfl,s1,b_,.nil⟩ (by rintro _ _ _ _ ⟨_,_,_,s3,_⟩;exact gF.of (s3 a _ ha)) ?_ ?_⟩
 ·rintro i v σ H2 hx ⟨v0,ls,rfl,s3,h4,h6⟩
  obtain⟨b,hb,rfl⟩:=j3 hx
  obtain⟨p,hp,dx,vf,pu,cu,vo,g1,g2,⟨as2,g3,Sv⟩,g4,g5⟩:=ix pa hb
  have e:gO (ps.take (i+1)) f=gO (ps.take i) f++if p.file=some f then p.iB else[]:=by rw[take_snoc hp,AS]
  refine⟨_,rfl,b,A.gP,dx,_,_,rfl,s3 _ _ g1,O.jq,O.j9,JT,_,rfl,?_⟩
  have hf:NW vf (V.str f)=true:=by
   cases hq:p.file with
   | none=>rw[hq] at g2;rw[show vf=V.jl from g2];rfl
   | some x=>rw[hq] at g2;rw[show vf=V.str x from g2];rfl
  refine⟨hf,_,rfl,?_⟩
  rw[g2.eq f]
  by_cases hm:p.file=some f
  ·rw[aaq hm] at e
   rw[Vy hm]
   refine l6 ?_
   refine⟨_,rfl,.inl ⟨rfl,_,gF.of h4⟩,_,rfl,b,A.gP,dx,_,_,rfl,s3 _ _ g1,O.jq,O.jK,Ei,l,pu,_,_,rfl,rfl,h4,s3 _ _ g3,?_,?_⟩
   ·rw[So,So,aan h6,aan Sv,←Vq,←e]
    exact aac (qC _ f) (Small.sub (acd _ _) sm).iB.sz
   ·refine⟨_,ls++as2,rfl,s3.upd hl,by rw[b_,aat],?_⟩
    rw[e]
    exact uv h6 Sv
  ·rw[aal hm,aaJ] at e
   rw[aab hm]
   exact jz ⟨_,ls,rfl,s3,h4,by rw[e];exact h6⟩
 ·rintro σ H2 ⟨v0,ls,rfl,s3,h4,h6⟩
  rw[So,hlen,aak] at h6
  exact⟨_,rfl,q l _ s3 hl ⟨ls,h4,Paired.kJ h6 fun _ _ z=>z.same s3⟩⟩
theorem HJ(ps:List Pt)(p:Pt):gone (ps++[p])=gone ps++p.j0:=by
 unfold gone
 rw[abI,aaD,abB,aaJ]
def L5(A:Ad):Sp:=fun vs H Q _=>∃(a:Addr)(ps:List Pt)(f:Str),vs=[.ref a,.str f]∧yH A H a ps∧Small ps∧∀p H',gj H H'→H p=none→qB A H' p (nN ps f)→Q (.ref p) H'
theorem vG(T:Txt mg)(O:Ok K mg A):ij P w K mg base l5 2 A.pN A.pO ["patches","file"] (L5 A):=by
 have Ai:=@yI P w K mg base A T O
 have sL:=@vF P w K mg base A T O
 refine O.se.f.p_ jg fun jm A0 outer s H vs Q E hr h=>?_
 obtain⟨a,ps,f,rfl,pa,sm,q⟩:=h
 refine⟨_,(de (lu 2 jg (nE O.vD Ai hr (a_ (pv 0) d_)))
   (de (ly (i:=3) jg.nd rfl (Or.inr rfl) mD)
   (de (iu aap rfl (ie (pv 2)) (rf 4 jg) (f_ (iu aap rfl (ie (gC (pv 4) rfl)) (rf 5 jg) (f_ (jy (by exact iV hr) (pv 3) (pv 5) kI rfl)))))
   (f_ (gR (wg pI (gb kG).names [6] rfl (ie (nE O.wO sL hr (a_ (pv 2) (a_ (pv 1) d_)))) rfl (by decide+kernel) (fun _ _ _ _=>(iz (i:=6) jg.nd rfl (Or.inl rfl))) (fun _ _ _ _=>⟨_,nI (jv (k9 (by exact iV hr) (gC (pv 6) rfl) (pv 3))),by(try simp only [kD]);rfl⟩) (fun _ _ _ _=>AF (pv 6)))))))),?_⟩
 refine M0 ?_;intro _ _ _
 refine⟨_,rfl,a,ps,rfl,pa,sm.many,fun l H1 s1 Nk Nl=>?_⟩
 have Wn:Small (live ps):=sm.sub (DX ps)
 obtain⟨as,ha,pl⟩:=id Nl
 have hlen:=aan pl
 intro g hg
 have s2:gj H1 (upd H1 g (.dT [])):=(gj.refl H1).new hg
 dsimp only [k7];refine Ht ?_;intro _
 let Jv:=fun(i:Nat) (σ:St) (H2:Hp)=>∃(v4 v5:Option V)(kvs:List (List Key×V)),σ=[rr a,rs f,rr l,rr g,v4,v5,none]∧gj H1 H2∧H2 g=some (.dT kvs)∧Qf kvs (gone ((live ps).take i))∧kvs.length≤(gone ((live ps).take i)).length
 refine⟨_,rfl,l,rfl,⟨_,gF.of (s2 l _ ha)⟩,iH (K:=K) (a:=l) (xs:=as.map V.ref) Jv
  ⟨none,none,[],rfl,s2,b_,(fun x=>rfl),Vx _⟩ (by rintro _ _ _ _ ⟨_,_,_,_,s3,_⟩;exact gF.of (s3 l _ ha)) ?_ ?_⟩
 ·rintro i v σ H2 hx ⟨v4,v5,kvs,rfl,s3,h1,h2,h3⟩
  obtain⟨b,hb,rfl⟩:=j3 hx
  obtain⟨p,hp,dx,vf,pu,cu,vo,g1,g2,g3,⟨cs,g4,Qq⟩,g5⟩:=ix pl hb
  have e:gone ((live ps).take (i+1))=gone ((live ps).take i)++p.j0:=by rw[take_snoc hp,HJ]
  have hsz:(gone ((live ps).take i)++p.j0).length≤4000:=by rw[←e];exact(Wn.sub (acd _ _)).j0
  rw[Vq] at hsz
  have Nn:=aan Qq
  let Jv:=fun(j:Nat) (σ:St) (H3:Hp)=>∃(v5:Option V)(kvs:List (List Key×V)),σ=[rr a,rs f,rr l,rr g,rr b,v5,none]∧gj H1 H3∧H3 g=some (.dT kvs)∧Qf kvs (gone ((live ps).take i)++p.j0.take j)∧kvs.length≤(gone ((live ps).take i)).length+j
  refine⟨_,rfl,b,A.gP,dx,_,_,rfl,s3 _ _ g1,O.jq,O.jL,Ej,cu,rfl,⟨_,gF.of (s3 _ _ g4)⟩,iH (K:=K) (a:=cu) (xs:=cs) Jv
   ⟨v5,kvs,rfl,s3,h1,by rw[abx,aaJ];exact h2,by omega⟩ (by rintro _ _ _ _ ⟨_,_,_,s4,_⟩;exact gF.of (s4 cu _ g4)) ?_ ?_⟩
  ·rintro j v σ H3 hx ⟨v5,kvs,rfl,s4,h1,h2,h3⟩
   obtain⟨n,hn,t,rfl,ht⟩:=ix Qq hx
   have hj:j<cs.length:=(List.getElem?_eq_some_iff.mp hx).1
   refine⟨_,rfl,_,rfl,g,_,rfl,nv.t (k:=nk n) h1 (s4 _ _ ht) (abm (m:=4000) (by omega) (by decide)),?_⟩
   have Zc:=js kvs (nk n) (V.bl true)
   refine⟨_,_,rfl,s4.upd hg,b_,?_,by omega⟩
   rw[take_snoc hn,←aaK]
   exact h2.put n _
  ·rintro σ H3 ⟨v5,kvs,rfl,s4,h1,h2,h3⟩
   rw[Nn,aak] at h2
   rw[Nn] at h3
   exact⟨_,v5,kvs,rfl,s4,h1,by rw[e];exact h2,by rw[e,Vq];exact h3⟩
 ·rintro σ H2 ⟨v4,v5,kvs,rfl,s3,h1,h2,h3⟩
  rw[So,hlen,aak] at h2
  refine⟨_,rfl,_,rfl,l,live ps,f,rfl,Nl.same s3,Wn,fun p H3 s4 sM ⟨Wo,Zd,Ze⟩=>?_⟩
  have Zf:Wo.length=(gO (live ps) f).length:=aan Ze
  have hbound:Wo.length≤4000:=by rw[Zf];exact aac (qC _ _) Wn.iB
  refine⟨p,rfl,⟨_,gF.of Zd⟩,jY (K:=K) (a:=p) (xs:=Wo.map V.ref) (by rw[So];exact aac hbound (by decide)) (fun i ys σ H4=>∃(v6:Option V)(ls:List Addr),σ=[rr a,rs f,rr l,rr g,v4,v5,v6]∧H4=H3∧ys=ls.map V.ref∧ls.length≤i∧Paired (mY A H3) ls (((gO (live ps) f).take i).filter fun l=>l.nm∉gone (live ps)))
   ⟨none,[],rfl,rfl,rfl,Vx _,.nil⟩ (by rintro _ _ _ _ _ ⟨_,ls,_,e,e2,e3,_⟩;subst e e2;exact⟨gF.of Zd,by rw[So];exact e3⟩) ?_ ?_⟩
  ·rintro i v ys σ H4 hx ⟨v6,ls,rfl,rfl,rfl,e3,h6⟩
   obtain⟨b,hb,rfl⟩:=j3 hx
   obtain⟨ln,vQ,dx,vn,vu,vl,k1,⟨t,rfl,k2⟩,k3,k4⟩:=ix Ze hb
   refine⟨_,rfl,b,A.gJ,dx,_,_,rfl,k1,O.iM,O.gH,iZ,_,rfl,g,_,rfl,i7.t (k:=nk ln.nm) (s4 _ _ h1) k2,_,rfl,?_⟩
   rw[h2 ln.nm,take_snoc vQ,aaH]
   by_cases hm:ln.nm∈gone (live ps)
   ·rw[Vy hm]
    refine jz ⟨_,ls,rfl,rfl,rfl,by omega,?_⟩
    rw[aag (by simpa using hm),aaY,aaJ]
    exact h6
   ·rw[aab hm]
    refine l6 ⟨_,rfl,_,ls++[b],rfl,rfl,by rw[aat];rfl,M4,?_⟩
    rw[YK (by simpa using hm),aaY]
    exact iy h6 ⟨dx,.ref t,vu,vl,k1,⟨t,rfl,k2⟩,k3,k4⟩
  ·rintro ys σ H4 ⟨v6,ls,rfl,rfl,rfl,e3,h6⟩ p2 AG
   rw[So,Zf,aak] at h6
   have s5:=((s1.trans s3).trans s4).new (o:=.lst (ls.map V.ref)) AG
   refine q p2 _ s5 (((s1.trans s3).trans s4).free AG) ⟨ls,b_,?_⟩
   exact Paired.kJ h6 fun _ _ z=>z.same ((gj.refl H4).new AG)
theorem p7{κ:Type}[DecidableEq κ](kvs:List (κ×V))(k:κ)(v:V):(putK kvs k v).map (·.1)=if k∈kvs.map (·.1) then kvs.map (·.1) else kvs.map (·.1)++[k]:=by
 unfold putK
 by_cases h:k∈kvs.map (·.1)
 ·have h':(kvs.any fun kv=>decide (kv.1=k))=true:=by
   obtain⟨p,hp,e⟩:=List.mem_map.mp h
   exact ach.mpr ⟨p,hp,Vy e⟩
  rw[aaq h',aaq h,List.map_map]
  refine abG fun p _=>?_
  show(if p.1=k then(p.1,v) else p).1=p.1
  split<;>rfl
 ·have h':¬(kvs.any fun kv=>decide (kv.1=k))=true:=fun z=>by
   obtain⟨p,hp,e⟩:=ach.mp z
   exact h (List.mem_map.mpr ⟨p,hp,aau e⟩)
  rw[aal h',aal h,aat]
  rfl
theorem s_{κ:Type}[DecidableEq κ]{kvs:List (κ×V)}{k:κ}:(iN kvs k).isSome=true↔k∈kvs.map (·.1):=by
 induction kvs with
 | nil=>exact⟨(fun z=>by cases z),(fun z=>by cases z)⟩
 | cons p r ih=>
  by_cases e:p.1=k
  ·rw[jj e,aaw,e];exact⟨fun _=>aav,fun _=>rfl⟩
  ·rw[je e,ih,aaw]
   exact⟨fun m=>aaj _ m,fun z=>(Wg.mp z).elim (fun z=>absurd z.symm e) id⟩
theorem Ek{κ:Type}[DecidableEq κ]{kvs:List (κ×V)}{k:κ}(h:k∉kvs.map (·.1)):iN kvs k=none:=by
 cases e:iN kvs k with
 | none=>rfl
 | some v=>exact absurd (s_.mp (by rw[e];rfl)) h
theorem sA{n:Nm}{l:List Nm}:nk n∈l.map nk↔n∈l:=by
 constructor
 ·intro h
  obtain⟨m,hm,e⟩:=List.mem_map.mp h
  rw[←o7 e];exact hm
 ·exact fun h=>aaa h
def AU(H:Hp)(a:Addr)(l:List Nm):Prop:=∃dk,H a=some (.dT dk)∧dk.map (·.1)=l.map nk
noncomputable def oe(l:List Nm)(m:Nm):List Nm:=if m∈l then l else l++[m]
theorem sC{l:List Nm}{m x:Nm}:x∈oe l m↔x∈l∨x=m:=by
 unfold oe
 split
 ·rename_i h
  exact⟨.inl,fun z=>z.elim id fun z=>z▸h⟩
 ·simp
theorem yW{l:List Nm}{m:Nm}(h:l.Nodup):(oe l m).Nodup:=by
 unfold oe
 split
 ·exact h
 ·rename_i hm
  rw[aaZ]
  exact⟨h,by simp,fun a ha b hb z=>hm (by rw[List.mem_singleton.mp hb] at z;exact z▸ha)⟩
theorem El{l:List Nm}{m:Nm}:(oe l m).length≤l.length+1:=by
 unfold oe
 split
 ·omega
 ·rw[Vq];exact Vx _
theorem vH{dk:List (List Key×V)}{l:List Nm}(h:dk.map (·.1)=l.map nk)(m:Nm)(v:V):(putK dk (nk m) v).map (·.1)=(oe l m).map nk:=by
 rw[p7,h]
 unfold oe
 by_cases e:m∈l
 ·rw[aaq (sA.mpr e),aaq e]
 ·rw[aal (fun z=>e (sA.mp z)),aal e,aat];rfl
noncomputable def zk(ns:List Nm)(ds:List Addr):List (List Key×V):=List.zipWith (fun n d=>(nk n,V.ref d)) ns ds
theorem GI:∀{ns:List Nm} {ds:List Addr} (n:Nm) (d:Addr),ns.length=ds.length→zk (ns++[n]) (ds++[d])=zk ns ds++[(nk n,V.ref d)]
 | [],[],_,_,_=>rfl
 | [],_::_,_,_,h=>by simp at h
 | _::_,[],_,_,h=>by simp at h
 | x::r,y::t,n,d,h=>by
  show(nk x,V.ref y)::zk (r++[n]) (t++[d])=_
  rw[GI n d (by simpa using h)]
  rfl
theorem Ct:∀{ns:List Nm} {ds:List Addr},ns.length=ds.length→(zk ns ds).map (·.1)=ns.map nk
 | [],[],_=>rfl
 | [],_::_,h=>by simp at h
 | _::_,[],h=>by simp at h
 | x::r,y::t,h=>by
  show nk x::(zk r t).map (·.1)=nk x::r.map nk
  rw[Ct (by simpa using h)]
noncomputable def tD:List Nm→List Addr→Nm→Addr
 | x::r,d::t,n=>if x=n then d else tD r t n
 | _,_,_=>0
theorem JU:∀{ns:List Nm} {ds:List Addr} {n:Nm},ns.length=ds.length→n∈ns→iN (zk ns ds) (nk n)=some (.ref (tD ns ds n))
 | [],_,_,_,hn=>by cases hn
 | _::_,[],_,h,_=>by simp at h
 | x::r,y::t,n,h,hn=>by
  show iN ((nk x,V.ref y)::zk r t) (nk n)=some (.ref (if x=n then y else tD r t n))
  by_cases e:x=n
  ·subst e
   rw[jj rfl,aaq rfl]
  ·have hr:n∈r:=(Wg.mp hn).elim (fun z=>absurd z.symm e) id
   rw[je (fun z=>e (o7 z)),JU (by simpa using h) hr,aal e]
theorem Cu:∀{ns:List Nm} {ds:List Addr} {n:Nm},ns.length=ds.length→n∈ns→tD ns ds n∈ds
 | [],_,_,_,hn=>by cases hn
 | _::_,[],_,h,_=>by simp at h
 | x::r,y::t,n,h,hn=>by
  show(if x=n then y else tD r t n)∈y::t
  by_cases e:x=n
  ·rw[aaq e];exact aav
  ·rw[aal e]
   exact aaj _ (Cu (by simpa using h) ((Wg.mp hn).elim (fun z=>absurd z.symm e) id))
theorem JV:∀{ns:List Nm} {ds:List Addr} {n m:Nm},ns.length=ds.length→ds.Nodup→n∈ns→m∈ns→tD ns ds n=tD ns ds m→n=m
 | [],_,_,_,_,_,hn,_,_=>by cases hn
 | _::_,[],_,_,h,_,_,_,_=>by simp at h
 | x::r,y::t,n,m,h,nd,hn,hm,e=>by
  have hl:r.length=t.length:=by simpa using h
  rw[aaX] at nd
  have e:(if x=n then y else tD r t n)=(if x=m then y else tD r t m):=e
  by_cases e1:x=n
  ·by_cases e2:x=m
   ·exact e1.symm.trans e2
   ·rw[aaq e1,aal e2] at e
    exact absurd (e▸Cu hl ((Wg.mp hm).elim (fun z=>absurd z.symm e2) id)) nd.1
  ·have Nc:=(Wg.mp hn).elim (fun z=>absurd z.symm e1) id
   by_cases e2:x=m
   ·rw[aal e1,aaq e2] at e
    exact absurd (e▸Cu hl Nc) nd.1
   ·rw[aal e1,aal e2] at e
    exact JV hl nd.2 Nc ((Wg.mp hm).elim (fun z=>absurd z.symm e2) id) e
structure VA(H:Hp)(p:Addr)(ns:List Nm)(ad:Nm→Addr)(sf:Nm→List Nm):Prop where
 at_:∃kvs,H p=some (.dT kvs)∧(∀n∈ns,iN kvs (nk n)=some (.ref (ad n)))∧kvs.map (·.1)=ns.map nk
 inj:∀n∈ns,∀m∈ns,ad n=ad m→n=m
 ks:∀n∈ns,AU H (ad n) (sf n)
theorem L6{ls:List Ln}{l:Ln}{m n:Nm}:Sa (ls++[l]) m n↔Sa ls m n∨(l.nm=n∧l.up=some m)∨(l.nm=m∧l.lo=some n):=by
 unfold Sa
 constructor
 ·rintro⟨x,hx,q⟩
  rcases Wl.mp hx with h|h
  ·exact .inl ⟨x,h,q⟩
  ·rw[List.mem_singleton.mp h] at q;exact .inr q
 ·rintro(⟨x,hx,q⟩|q)
  ·exact⟨x,YI _ hx,q⟩
  ·exact⟨l,by simp,q⟩
def Rt(A:Ad):Sp:=fun vs H Q _=>∃(a:Addr)(ls:List Ln),vs=[.ref a]∧qB A H a ls∧uw ls.length∧(ls.map (·.nm)).Nodup∧qi ls∧
 ∀p H' ad sf,gj H H'→H p=none→(∀n∈ls.map (·.nm),H (ad n)=none)→VA H' p (ls.map (·.nm)) ad sf→(∀n,(sf n).Nodup∧∀m,m∈sf n↔Sa ls m n)→Q (.ref p) H'
theorem vI(T:Txt mg)(O:Ok K mg A):ij P w K mg base l5 1 A.pP A.pQ ["lines"] (Rt A):=by
 refine O.sh.f.p_ kl fun jm A0 outer s H vs Q E hr h=>?_
 obtain⟨a,ls,rfl,⟨as,ha,pa⟩,jI,nd,cl,q⟩:=h
 have hlen:=aan pa
 refine⟨_,(de (lu 1 kl mD)
   (de (iu aap rfl (ie (pv 0)) (rf 2 kl) (f_ (jy (by exact iV hr) (pv 1) (gC (pv 2) rfl) mD rfl)))
   (de (iu aap rfl (ie (pv 0)) (rf 2 kl) (de (qd (ir (jv (sR (gC (pv 2) rfl))) (f_ (jy (by exact iV hr) (zt hr (pv 1) (gC (pv 2) rfl)) (gC (pv 2) rfl) kI rfl)) g_))
   (f_ (ir (jv (sR (gC (pv 2) rfl))) (f_ (jy (by exact iV hr) (zt hr (pv 1) (gC (pv 2) rfl)) (gC (pv 2) rfl) kI rfl)) g_))))
   (f_ (gR (pv 1)))))),?_⟩
 refine M0 ?_;intro _ _ _
 intro p hp
 have s1:gj H (upd H p (.dT [])):=(gj.refl H).new hp
 dsimp only [k7];refine Ht ?_;intro _
 let Jv:=fun(i:Nat) (σ:St) (H2:Hp)=>∃(v:Option V)(ds:List Addr),σ=[rr a,rr p,v]∧gj H H2∧H2 p=some (.dT (zk ((ls.take i).map (·.nm)) ds))∧ds.length=((ls.take i).map (·.nm)).length∧ds.Nodup∧(∀d∈ds,H d=none∧d≠p∧H2 d=some (.dT []))
 refine⟨_,rfl,a,rfl,⟨_,gF.of (s1 a _ ha)⟩,iH (K:=K) (a:=a) (xs:=as.map V.ref) Jv
  ⟨none,[],rfl,s1,b_,rfl,abg,fun d hd=>by cases hd⟩ (by rintro _ _ _ _ ⟨_,_,_,s3,_⟩;exact gF.of (s3 a _ ha)) ?_ ?_⟩
 ·rintro i v σ H2 hx ⟨v0,ds,rfl,s3,h1,h2,h3,h4⟩
  obtain⟨b,hb,rfl⟩:=j3 hx
  obtain⟨l,hl,dx,vn,vu,vl,g1,⟨t,rfl,g2⟩,g3,g4⟩:=ix pa hb
  have hi:i<ls.length:=(List.getElem?_eq_some_iff.mp hl).1
  intro d hd
  have s4:gj H (upd H2 d (.dT [])):=s3.new hd
  have Wq:d≠p:=fun z=>by rw[z,h1] at hd;cases hd
  have K_:d∉ds:=fun z=>by rw[(h4 d z).2.2] at hd;cases hd
  have Mz:upd H2 d (.dT []) p=some (.dT (zk ((ls.take i).map (·.nm)) ds)):=by rw[e_ Wq.symm];exact h1
  have Aj:l.nm∉(ls.take i).map (·.nm):=fun z=>by
   have e2:(ls.map (·.nm)).take i=(ls.take i).map (·.nm):=List.map_take.symm
   rw[←e2] at z
   obtain⟨j,hj,e⟩:=aaL.mp z |>.imp fun j h=>(⟨(List.getElem?_eq_some_iff.mp h).1,h⟩:j<((ls.map (·.nm)).take i).length∧((ls.map (·.nm)).take i)[j]?=some l.nm)
   have Ik:j<i:=by rw[aaB] at hj;omega
   rw[abN,aaq Ik] at e
   have e3:(ls.map (·.nm))[i]?=some l.nm:=by rw[aae,hl];rfl
   have:=(abY (List.getElem?_eq_some_iff.mp e).1 nd).mp (e.trans e3.symm)
   omega
  refine⟨_,rfl,_,rfl,b,A.gJ,dx,_,_,rfl,s4 _ _ g1,O.iM,O.gH,iZ,p,_,rfl,nv.t (k:=nk l.nm) Mz (s4 _ _ g2) ?_,?_⟩
  ·have:(zk ((ls.take i).map (·.nm)) ds).length≤ds.length:=by unfold zk;rw[List.length_zipWith];exact Nat.min_le_right _ _
   rw[h2,So,aaB] at this
   exact abm (m:=4000) (by have:uw ls.length:=jI;unfold uw at this;omega) (by decide)
  ·have e:putK (zk ((ls.take i).map (·.nm)) ds) (nk l.nm) (V.ref d)=zk ((ls.take (i+1)).map (·.nm)) (ds++[d]):=by
    rw[take_snoc hl,aat]
    show _=zk (_++[l.nm]) _
    rw[GI _ _ h2.symm]
    refine DI _ ?_
    exact Ek (by rw[Ct h2.symm];exact fun z=>Aj (sA.mp z))
   rw[e]
   refine⟨_,ds++[d],rfl,s4.upd hp,b_,?_,?_,?_⟩
   ·rw[take_snoc hl,aat,Vq,Vq,h2];rfl
   ·rw[aaZ]
    exact⟨h3,by simp,fun x hx y hy z=>K_ (by rw[List.mem_singleton.mp hy] at z;exact z▸hx)⟩
   ·intro x hx
    rcases Wl.mp hx with hx|hx
    ·obtain⟨k1,k2,k3⟩:=h4 x hx
     refine⟨k1,k2,?_⟩
     rw[e_ k2,e_ (fun z=>by rw[z] at hx;exact K_ hx)]
     exact k3
    ·rw[List.mem_singleton.mp hx]
     exact⟨s3.free hd,Wq,by rw[e_ Wq];exact b_⟩
 ·rintro σ H2 ⟨v0,ds,rfl,s3,h1,h2,h3,h4⟩
  have el:(as.map V.ref).length=ls.length:=by rw[So];exact hlen
  rw[el,aak] at h1 h2
  have Ul:=h2.symm
  have CT:∀n∈ls.map (·.nm),iN (zk (ls.map (·.nm)) ds) (nk n)=some (.ref (tD (ls.map (·.nm)) ds n)):=fun n hn=>JU Ul hn
  have MF:∀n∈ls.map (·.nm),∀m∈ls.map (·.nm),tD (ls.map (·.nm)) ds n=tD (ls.map (·.nm)) ds m→n=m:=fun n hn m hm e=>JV Ul h3 hn hm e
  have yp:∀n∈ls.map (·.nm),H (tD (ls.map (·.nm)) ds n)=none∧tD (ls.map (·.nm)) ds n≠p∧H2 (tD (ls.map (·.nm)) ds n)=some (.dT []):=fun n hn=>h4 _ (Cu Ul hn)
  generalize tD (ls.map (·.nm)) ds=ad at CT MF yp
  have Np:=Ct Ul
  generalize zk (ls.map (·.nm)) ds=kvs at h1 CT Np
  dsimp only [k7];refine Ht ?_;intro _
  let Jv:=fun(i:Nat) (σ:St) (H3:Hp)=>∃(v:Option V)(sf:Nm→List Nm),σ=[rr a,rr p,v]∧gj H H3∧H3 p=some (.dT kvs)∧(∀n∈ls.map (·.nm),AU H3 (ad n) (sf n))∧∀n,(sf n).Nodup∧(sf n).length≤2*i∧∀m,m∈sf n↔Sa (ls.take i) m n
  refine⟨_,rfl,a,rfl,⟨_,gF.of (s3 a _ ha)⟩,iH (K:=K) (a:=a) (xs:=as.map V.ref) Jv
   ⟨v0,fun _=>[],rfl,s3,h1,fun n hn=>⟨[],(yp n hn).2.2,rfl⟩,fun n=>⟨abg,aaI _,fun m=>⟨(fun z=>by cases z),fun⟨x,hx,_⟩=>by rw[abx] at hx;cases hx⟩⟩⟩ (by rintro _ _ _ _ ⟨_,_,_,s3,_⟩;exact gF.of (s3 a _ ha)) ?_ ?_⟩
  ·rintro i v σ H3 hx ⟨v1,sf,rfl,s4,k1,k2,k3⟩
   obtain⟨b,hb,rfl⟩:=j3 hx
   obtain⟨l,hl,dx,vn,vu,vl,g1,⟨t,rfl,g2⟩,g3,g4⟩:=ix pa hb
   have hi:i<ls.length:=(List.getElem?_eq_some_iff.mp hl).1
   have hi4:i<4000:=aas hi jI
   have vQ:l.nm∈ls.map (·.nm):=aaa (Vs hl)
   have step:∀{H3:Hp} {sf:Nm→List Nm} {n m:Nm},gj H H3→H3 p=some (.dT kvs)→(∀n∈ls.map (·.nm),AU H3 (ad n) (sf n))→n∈ls.map (·.nm)→∀dk,H3 (ad n)=some (.dT dk)→dk.map (·.1)=(sf n).map nk→
     gj H (upd H3 (ad n) (.dT (putK dk (nk m) (V.bl true))))∧upd H3 (ad n) (.dT (putK dk (nk m) (V.bl true))) p=some (.dT kvs)∧(∀x∈ls.map (·.nm),AU (upd H3 (ad n) (.dT (putK dk (nk m) (V.bl true)))) (ad x) (if x=n then oe (sf n) m else sf x)):=fun{H3 sf n m} s4 k1 k2 hn dk hdk Wr=>by
    refine⟨s4.upd (yp n hn).1,by rw[e_ (yp n hn).2.1.symm];exact k1,fun x hx=>?_⟩
    by_cases e:x=n
    ·subst e
     rw[aaq rfl]
     exact⟨_,b_,vH Wr m _⟩
    ·rw[aal e]
     obtain⟨Px,e1,e2⟩:=k2 x hx
     exact⟨Px,by rw[e_ (fun z=>e (MF x hx n hn z))];exact e1,e2⟩
   have Um:∀m n,Sa (ls.take (i+1)) m n↔Sa (ls.take i) m n∨(l.nm=n∧l.up=some m)∨(l.nm=m∧l.lo=some n):=fun m n=>by rw[take_snoc hl];exact L6
   refine⟨fun σ H4=>∃sf:Nm→List Nm,σ=[rr a,rr p,rr b]∧gj H H4∧H4 p=some (.dT kvs)∧(∀n∈ls.map (·.nm),AU H4 (ad n) (sf n))∧∀n,(sf n).Nodup∧(sf n).length≤2*i+1∧∀m,m∈sf n↔Sa (ls.take i) m n∨(l.nm=n∧l.up=some m),?_,?_⟩
   ·refine⟨_,rfl,b,A.gJ,dx,_,_,rfl,s4 _ _ g1,O.iM,O.iD,FC,_,rfl,?_⟩
    cases hu:l.up with
    | none=>
     rw[hu] at g3
     rw[show vu=V.jl from g3]
     exact⟨sf,rfl,s4,k1,k2,fun n=>⟨(k3 n).1,by have:=(k3 n).2.1;omega,fun m=>by rw[(k3 n).2.2 m];exact⟨.inl,fun z=>z.elim id fun z=>by cases z.2⟩⟩⟩
    | some u=>
     rw[hu] at g3
     obtain⟨tu,rfl,gu⟩:=(show lx H vu u from g3)
     obtain⟨dk,e1,e2⟩:=k2 l.nm vQ
     have Sw:dk.length=(sf l.nm).length:=by have:=aa2 List.length e2;rwa [So,So] at this
     refine⟨_,rfl,_,rfl,b,A.gJ,dx,_,_,rfl,s4 _ _ g1,O.iM,O.gH,iZ,p,.ref (ad l.nm),rfl,?_,_,rfl,b,A.gJ,dx,_,_,rfl,s4 _ _ g1,O.iM,O.iD,FC,ad l.nm,_,rfl,nv.t (k:=nk u) e1 (s4 _ _ gu) (abm (m:=8000) (by have:=(k3 l.nm).2.1;omega) (by decide)),?_⟩
     ·have:=i7.t (k:=nk l.nm) k1 (s4 _ _ g2)
      rw[CT _ vQ] at this
      exact this
     ·obtain⟨z1,z2,z3⟩:=step (m:=u) s4 k1 k2 vQ dk e1 e2
      refine⟨fun x=>if x=l.nm then oe (sf l.nm) u else sf x,rfl,z1,z2,z3,fun n=>?_⟩
      obtain⟨y1,y2,y3⟩:=k3 n
      show(if n=l.nm then oe (sf l.nm) u else sf n).Nodup∧(if n=l.nm then oe (sf l.nm) u else sf n).length≤_∧∀m,m∈(if n=l.nm then oe (sf l.nm) u else sf n)↔_
      by_cases e:n=l.nm
      ·subst e
       rw[aaq rfl]
       have:=El (l:=sf l.nm) (m:=u)
       refine⟨yW y1,by omega,fun m=>?_⟩
       rw[sC,y3 m]
       exact⟨fun z=>z.elim .inl fun z=>.inr ⟨rfl,by rw[z]⟩,fun z=>z.elim .inl fun z=>.inr (aaz z.2).symm⟩
      ·rw[aal e]
       refine⟨y1,by omega,fun m=>?_⟩
       rw[y3 m]
       exact⟨.inl,fun z=>z.elim id fun z=>absurd z.1.symm e⟩
   ·rintro σ H4 ⟨G4,rfl,s5,k4,k5,k6⟩
    have fin:∀(Py:Nm→List Nm)(n:Nm),((Py n).Nodup∧(Py n).length≤2*i+2∧∀m,m∈Py n↔(Sa (ls.take i) m n∨(l.nm=n∧l.up=some m))∨(l.nm=m∧l.lo=some n))→(Py n).Nodup∧(Py n).length≤2*(i+1)∧∀m,m∈Py n↔Sa (ls.take (i+1)) m n:=fun Py n ⟨z1,z2,z3⟩=>
     ⟨z1,by omega,fun m=>by rw[z3 m,Um m n,or_assoc]⟩
    refine⟨_,rfl,b,A.gJ,dx,_,_,rfl,s5 _ _ g1,O.iM,O.iE,FD,_,rfl,?_⟩
    cases hu:l.lo with
    | none=>
     rw[hu] at g4
     rw[show vl=V.jl from g4]
     refine⟨_,G4,rfl,s5,k4,k5,fun n=>fin G4 n ⟨(k6 n).1,by have:=(k6 n).2.1;omega,fun m=>?_⟩⟩
     rw[(k6 n).2.2 m,hu]
     exact⟨.inl,fun z=>z.elim id fun z=>by cases z.2⟩
    | some d=>
     have K_:d∈ls.map (·.nm):=(cl l (Vs hl)).2 d hu
     rw[hu] at g4
     obtain⟨td,rfl,gd⟩:=(show lx H vl d from g4)
     obtain⟨dk,e1,e2⟩:=k5 d K_
     have Sw:dk.length=(G4 d).length:=by have:=aa2 List.length e2;rwa [So,So] at this
     refine⟨_,rfl,_,rfl,b,A.gJ,dx,_,_,rfl,s5 _ _ g1,O.iM,O.iE,FD,p,.ref (ad d),rfl,?_,_,rfl,b,A.gJ,dx,_,_,rfl,s5 _ _ g1,O.iM,O.gH,iZ,ad d,_,rfl,nv.t (k:=nk l.nm) e1 (s5 _ _ g2) (abm (m:=8001) (by have:=(k6 d).2.1;omega) (by decide)),?_⟩
     ·have:=i7.t (k:=nk d) k4 (s5 _ _ gd)
      rw[CT _ K_] at this
      exact this
     ·obtain⟨z1,z2,z3⟩:=step (m:=l.nm) s5 k4 k5 K_ dk e1 e2
      refine⟨_,fun x=>if x=d then oe (G4 d) l.nm else G4 x,rfl,z1,z2,z3,fun n=>fin (fun x=>if x=d then oe (G4 d) l.nm else G4 x) n ?_⟩
      obtain⟨y1,y2,y3⟩:=k6 n
      show(if n=d then oe (G4 d) l.nm else G4 n).Nodup∧(if n=d then oe (G4 d) l.nm else G4 n).length≤_∧∀m,m∈(if n=d then oe (G4 d) l.nm else G4 n)↔_
      by_cases e:n=d
      ·subst e
       rw[aaq rfl]
       have:=El (l:=G4 n) (m:=l.nm)
       refine⟨yW y1,by omega,fun m=>?_⟩
       rw[sC,y3 m,hu]
       exact⟨fun z=>z.elim .inl fun z=>.inr ⟨z.symm,rfl⟩,fun z=>z.elim .inl fun z=>.inr z.1.symm⟩
      ·rw[aal e]
       refine⟨y1,by omega,fun m=>?_⟩
       rw[y3 m,hu]
       exact⟨.inl,fun z=>z.elim id fun z=>absurd (aaz z.2).symm e⟩
  ·rintro σ H3 ⟨v1,sf,rfl,s4,k1,k2,k3⟩
   rw[So,hlen] at k3
   exact⟨_,rfl,q p _ ad sf s4 hp (fun n hn=>(yp n hn).1) ⟨⟨kvs,k1,CT,Np⟩,MF,k2⟩ fun n=>⟨(k3 n).1,fun m=>by rw[(k3 n).2.2 m,aak]⟩⟩
theorem lx.upd{H:Hp}{v:V}{n:Nm}{x:Addr}{o o':HO}(h:lx H v n)(hx:H x=some o')(ht:∀xs,o'≠.tup xs):lx (L2.upd H x o) v n:=by
 obtain⟨t,e,Wh⟩:=h
 exact⟨t,e,by rw[e_ (i4 Wh hx (fun z=>ht _ z.symm))];exact Wh⟩
theorem sD{dk:List (List Key×V)}{l:List Nm}(h:dk.map (·.1)=l.map nk):dk.length=l.length:=by
 have:=aa2 List.length h
 rwa [So,So] at this
theorem Em{dk:List (List Key×V)}{l:List Nm}(h:dk.map (·.1)=l.map nk){i:Nat}{k:List Key}{v:V}(hi:dk[i]?=some (k,v)):∃n,l[i]?=some n∧k=nk n:=by
 have h1:(dk.map (·.1))[i]?=some k:=by rw[aae,hi];rfl
 rw[h,aae] at h1
 obtain⟨n,e,e2⟩:=Option.map_eq_some_iff.mp h1
 exact⟨n,e,e2.symm⟩
theorem keys_has{dk:List (List Key×V)}{l:List Nm}(h:dk.map (·.1)=l.map nk)(n:Nm):(iN dk (nk n)).isSome=decide (n∈l):=by
 by_cases m:n∈l
 ·rw[Vy m];exact s_.mpr (by rw[h];exact sA.mpr m)
 ·rw[aab m,abE];exact fun z=>m (sA.mp (by rw[←h];exact s_.mp z))
theorem En:∀(more:List (List Key×V))(dk:List (List Key×V))(l r:List Nm),dk.map (·.1)=l.map nk→more.map (·.1)=r.map nk→l.Nodup→∃l':List Nm,(putAll dk more).map (·.1)=l'.map nk∧l'.Nodup∧∀m,m∈l'↔m∈l∨m∈r
 | [],dk,l,r,h1,h2,nd=>by
  have:r=[]:=by cases r with|nil=>rfl|cons _ _=>cases h2
  subst this
  exact⟨l,h1,nd,fun m=>by simp⟩
 | p::t,dk,l,r,h1,h2,nd=>by
  cases r with
  | nil=>cases h2
  | cons x r=>
   rw[aaw,aaw] at h2
   injection h2 with e1 e2
   rw[rC,e1]
   obtain⟨l',z1,z2,z3⟩:=En t (putK dk (nk x) p.2) (oe l x) r (vH h1 x _) e2 (yW nd)
   refine⟨l',z1,z2,fun m=>?_⟩
   rw[z3 m,sC,Wg,or_assoc]
def OF:Sp:=fun vs H Q _=>∃(d a:Addr)(xs:List Nm)(ka:List (List Key×V))(af:Nm→List Nm),vs=[.ref d,.ref a]∧AU H d xs∧d≠a∧H a=some (.dT ka)∧(∀x∈xs,∃b,iN ka (nk x)=some (.ref b)∧b≠d∧AU H b (af x))∧xs.length≤4000∧(∀x∈xs,(af x).length≤4000)∧
 ∀p H' rs,gj H H'→H p=none→AU H' p rs→rs.Nodup→(∀m,m∈rs↔∃x∈xs,m=x∨m∈af x)→Q (.ref p) H'
theorem HK(T:Txt mg)(O:Ok K mg A):ij P w K mg base l5 1 A.Ec A.Ed ["names","ahead"] OF:=by
 refine O.joined.f.p_ wF fun jm A0 outer s H vs Q E hr h=>?_
 obtain⟨d,a,xs,ka,af,rfl,⟨kd,hd,hk⟩,hda,ha,hb,hx4,haf,q⟩:=h
 refine⟨_,(de (lu 2 wF mD)
   (de (yR (iu aap rfl (zr (pv 0)) (rf 3 wF) (de (jy (by exact iV hr) (pv 2) (pv 3) kI rfl)
   (f_ (gM (Jz (by exact iV hr) (pv 2) (zt hr (pv 1) (pv 3)) ⟨rfl,rfl,rfl,rfl⟩))))))
   (f_ (gR (pv 2))))),?_⟩
 refine DO ?_;intro _ _
 intro p hp
 have Sx:p≠d:=(gh hd hp).symm
 have Nq:p≠a:=(gh ha hp).symm
 refine⟨_,rfl,d,kd,rfl,by rw[e_ Sx.symm];exact hd,fun o uz=>?_⟩
 have Iw:=sD hk
 let Jv:=fun(i:Nat) (σ:St) (H2:Hp)=>∃(v:Option V)(kf:List (List Key×V))(rs:List Nm),σ=[rr d,rr a,rr p,v]∧(∀b o,H b=some o→b≠d→H2 b=some o)∧H2 d=some (.nc o (.dT kd))∧H2 p=some (.dT kf)∧kf.map (·.1)=rs.map nk∧rs.Nodup∧kf.length≤i*4001∧∀m,m∈rs↔∃x∈xs.take i,m=x∨m∈af x
 refine Bp (d:=d) (o:=o) (kvs:=kd) Jv
  ⟨none,[],[],rfl,fun b o e nb=>by rw[e_ nb,e_ (gh e hp)];exact e,b_,by rw[e_ Sx];exact b_,rfl,abg,by simp,fun m=>by simp⟩ (by rintro _ _ _ ⟨_,_,_,_,_,e,_⟩;exact e) ?_ ?_
 ·rintro i k v t σ H2 hi ht ⟨v0,kf,rs,rfl,h1,h2,h3,h4,h5,h6,h7⟩
  obtain⟨x,hx,rfl⟩:=Em hk hi
  have Uo:x∈xs:=Vs hx
  have A5:i<xs.length:=(List.getElem?_eq_some_iff.mp hx).1
  obtain⟨b,e1,e2,kb,e3,e4⟩:=hb x Uo
  have Zg:b≠p:=gh e3 hp
  have Nh:=sD e4
  have hb4:=haf x Uo
  have htp:t≠p:=fun z=>by rw[z,h3] at ht;cases ht
  have hl:=js kf (nk x) (V.bl true)
  have sz:sizeLine=16777216:=aay
  have hmul:i*4001≤4000*4001:=Nat.mul_le_mul_right _ (by omega)
  refine⟨_,rfl,_,rfl,p,_,rfl,nv.t (k:=nk x) h3 ht (by omega),?_⟩
  have sJ:putK kf (nk x) (V.bl true)≠[]:=fun z=>by
   have:=vH h4 x (V.bl true)
   rw[z] at this
   have hm:x∈oe rs x:=sC.mpr (.inr rfl)
   cases hq:oe rs x with
   | nil=>rw[hq] at hm;cases hm
   | cons _ _=>rw[hq] at this;cases this
  refine⟨_,rfl,p,rfl,.inr ⟨_,.inl b_⟩,_,rfl,_,rfl,a,.ref b,rfl,?_,b,_,kb,rfl,b_,.inl (by rw[e_ Zg];exact h1 _ _ e3 e2),Zg.symm,sJ,by omega,?_⟩
  ·have:=i7.t (H:=L2.upd H2 p (.dT (putK kf (nk x) (V.bl true)))) (k:=nk x) (by rw[e_ Nq.symm];exact h1 a _ ha hda.symm) (b:=t) (by rw[e_ htp];exact ht)
   rw[e1] at this
   exact this
  ·obtain⟨l',z1,z2,z3⟩:=En kb _ (oe rs x) (af x) (vH h4 x (V.bl true)) e4 (yW h5)
   refine⟨_,_,l',rfl,fun b o e nb=>?_,?_,b_,z1,z2,?_,fun m=>?_⟩
   ·rw[e_ (gh e hp),e_ (gh e hp)];exact h1 b o e nb
   ·rw[e_ Sx.symm,e_ Sx.symm];exact h2
   ·have:=qf kb (putK kf (nk x) (V.bl true))
    have:(i+1)*4001=i*4001+4001:=Nat.succ_mul _ _
    omega
   ·rw[z3 m,sC,h7 m,take_snoc hx]
    constructor
    ·rintro((⟨y,hy,z⟩|z)|z)
     ·exact⟨y,YI _ hy,z⟩
     ·exact⟨x,by simp,.inl z⟩
     ·exact⟨x,by simp,.inr z⟩
    ·rintro⟨y,hy,z⟩
     rcases Wl.mp hy with hy|hy
     ·exact .inl (.inl ⟨y,hy,z⟩)
     ·rw[List.mem_singleton.mp hy] at z
      exact z.elim (fun z=>.inl (.inr z)) .inr
 ·rintro σ H2 ⟨v0,kf,rs,rfl,h1,h2,h3,h4,h5,h6,h7⟩
  rw[Iw,aak] at h7
  refine⟨d,o,_,h2,uz,_,rfl,q p _ rs (fun b u e=>?_) hp ⟨kf,by rw[e_ Sx];exact h3,h4⟩ h5 h7⟩
  by_cases Ws:b=d
  ·subst Ws;rw[b_];rw[hd] at e;exact e
  ·rw[e_ Ws];exact h1 b u e Ws
structure o8(ls:List Ln)(H1 H:Hp)(h:Addr)(S:List Nm)(af:Nm→List Nm):Prop where
 ex:∃kvs,H h=some (.dT kvs)∧kvs.map (·.1)=S.map nk∧∀n∈S,∃b,iN kvs (nk n)=some (.ref b)∧b≠h∧H1 b=none∧AU H b (af n)
 nd:S.Nodup
 good:∀n∈S,n∈ls.map (·.nm)∧(af n).Nodup∧∀m,m∈af n↔Ah ls m n
theorem o8.same{ls:List Ln}{H1 H H':Hp}{h:Addr}{S:List Nm}{af:Nm→List Nm}(x:o8 ls H1 H h S af)(s:gj H H'):o8 ls H1 H' h S af:=by
 obtain⟨⟨kvs,e1,e2,e3⟩,nd,g⟩:=x
 refine⟨⟨kvs,s _ _ e1,e2,fun n hn=>?_⟩,nd,g⟩
 obtain⟨b,z1,z2,z3,dk,z4,z5⟩:=e3 n hn
 exact⟨b,z1,z2,z3,dk,s _ _ z4,z5⟩
theorem o8.lst{ls:List Ln}{H1 H:Hp}{h c:Addr}{S:List Nm}{af:Nm→List Nm}{xs:List V}{o:HO}(x:o8 ls H1 H h S af)(hc:H c=some (.lst xs)):o8 ls H1 (L2.upd H c o) h S af:=by
 obtain⟨⟨kvs,e1,e2,e3⟩,nd,g⟩:=x
 refine⟨⟨kvs,by rw[e_ (i4 e1 hc (fun z=>by cases z))];exact e1,e2,fun n hn=>?_⟩,nd,g⟩
 obtain⟨b,z1,z2,z3,dk,z4,z5⟩:=e3 n hn
 exact⟨b,z1,z2,z3,dk,by rw[e_ (i4 z4 hc (fun z=>by cases z))];exact z4,z5⟩
theorem GJ{sf:Nm→List Nm}{B n:Nat}{st S:List Nm}(r:Run sf B n st S):st.length≤B:=by
 cases r with
 | nil=>exact aaI _
 | skip _ h _=>exact h
 | fin _ _ h _=>exact h
 | push _ _ h _=>exact h
theorem Eo{α β:Type}{F:α→β→Prop}{vs:List α}{xs:List β}{x:β}(p:Paired F vs (xs++[x])):∃Up v,vs=Up++[v]∧Paired F Up xs∧F v x:=by
 induction xs generalizing vs with
 | nil=>
  cases p with
  | cons f t=>cases t;exact⟨[],_,rfl,.nil,f⟩
 | cons y r ih=>
  cases p with
  | cons f t=>
   obtain⟨Up,v,rfl,h1,h2⟩:=ih t
   exact⟨_::Up,v,rfl,.cons f h1,h2⟩
def Cv(H:Hp)(p:Addr)(ls:List Ln):Prop:=∃kvs,H p=some (.dT kvs)∧∀n∈ls.map (·.nm),∃b dk,iN kvs (nk n)=some (.ref b)∧H b=some (.dT dk)∧∀m,(iN dk (nk m)).isSome=true↔Ah ls m n
theorem Cv.same{H H':Hp}{p:Addr}{ls:List Ln}(x:Cv H p ls)(s:gj H H'):Cv H' p ls:=by
 obtain⟨kvs,e1,e2⟩:=x
 refine⟨kvs,s _ _ e1,fun n hn=>?_⟩
 obtain⟨b,dk,z1,z2,z3⟩:=e2 n hn
 exact⟨b,dk,z1,s _ _ z2,z3⟩
def Ru(A:Ad):Sp:=fun vs H Q _=>∃(a:Addr)(ls:List Ln),vs=[.ref a]∧qB A H a ls∧uw ls.length∧(ls.map (·.nm)).Nodup∧qi ls∧JG ls∧∀p H',gj H H'→H p=none→Cv H' p ls→Q (.ref p) H'
theorem Cw(T:Txt mg)(O:Ok K mg A):ij P w K mg base l5 2 A.xK A.xM ["lines"] (Ru A):=by
 have xf:=@vI P w K mg base A T O
 have KL:=@HK P w K mg base A T O
 refine O.Bt.f.p_ jC fun jm A0 outer s H vs Q E hr h=>?_
 obtain⟨a,ls,rfl,la,jI,nd,cl,tp,q⟩:=h
 obtain⟨as,ha,pa⟩:=id la
 have hlen:=aan pa
 have yK:ls.length≤4000:=jI
 refine⟨_,(de (lu 1 jC (nE O.sh xf hr (a_ (pv 0) d_)))
   (de (ly (i:=2) jC.nd rfl (Or.inr rfl) mD)
   (de (iu aap rfl (ie (pv 0)) (rf 3 jC) (de (lu 4 jC (iU (a_ (gC (pv 3) rfl) d_)))
   (f_ (Ds aap (uM (pv 4) (fun _=>rfl)) (de (lu 5 jC (N2 aaF PySem.F.slot_list_pop PySem.F.type_list_pop N3 (pv 4)))
   (de (ir (jv (oZ (by exact iV hr) (pv 5) (pv 2))) (f_ (Dr)) g_)
   (de (yR (B2 (j:=6) xB (gb oC).names [7] jC.nd rfl rfl rfl (zr (zt hr (pv 1) (pv 5))) rfl (by decide+kernel) (fun _ _ _ _=>(iz (i:=7) jC.nd rfl (Or.inl rfl))) (fun _ _ _ _=>⟨_,nI (jv (k9 (by exact iV hr) (pv 7) (pv 2))),by(try simp only [kD]);rfl⟩) (fun _ _ _ _=>AF (pv 7))))
   (f_ (ir (uM (pv 6) (fun _=>rfl)) (de (gM (ow aaF aaQ aaR j8 (pv 4) (a_ (pv 5) d_)))
   (f_ (gM (ow aaF PySem.F.slot_list_extend PySem.F.type_list_extend Bi (pv 4) (a_ (pv 6) d_))))) (f_ (jy (by exact iV hr) (pv 2) (pv 5) (nE O.joined KL hr (a_ (zt hr (pv 1) (pv 5)) (a_ (pv 2) d_))) rfl)))))))))))
   (f_ (gR (pv 2)))))),?_⟩
 refine M0 ?_;intro _ _ _
 refine⟨_,rfl,a,ls,rfl,la,jI,nd,cl,fun st H1 ad sf s1 hst0 had0 xc Pz=>?_⟩
 obtain⟨⟨kst,MG,Sy,hst3⟩,MF,Wr⟩:=xc
 have hN:(1+ls.length*ls.length)≤16000001:=by have:=Nat.mul_le_mul yK yK;omega
 have sz:sizeLine=16777216:=aay
 have SA:∀n,(sf n).length≤4000:=fun n=>by
  have:=len_sub (ys:=ls.map (·.nm)) (Pz n).1 fun y hy=>(cl.sa (((Pz n).2 y).mp hy)).1
  rw[So] at this;omega
 intro h hh
 have s2:gj H1 (L2.upd H1 h (.dT [])):=(gj.refl H1).new hh
 dsimp only [k7];refine Ht ?_;intro _
 let Jv:=fun(i:Nat) (σ:St) (H2:Hp)=>∃(v3 v4 v5 v6:Option V)(S:List Nm)(af:Nm→List Nm),σ=[rr a,rr st,rr h,v3,v4,v5,v6,none]∧gj H1 H2∧o8 ls H1 H2 h S af∧∀l∈ls.take i,l.nm∈S
 refine⟨_,rfl,a,rfl,⟨_,gF.of (s2 _ _ (s1 _ _ ha))⟩,iH (K:=K) (a:=a) (xs:=as.map V.ref) Jv
  ⟨none,none,none,none,[],fun _=>[],rfl,s2,⟨⟨[],b_,rfl,fun n hn=>by cases hn⟩,abg,fun n hn=>by cases hn⟩,fun l hl=>by rw[abx] at hl;cases hl⟩ (by rintro _ _ _ _ ⟨_,_,_,_,_,_,_,s3,_⟩;exact gF.of (s3 _ _ (s1 _ _ ha))) ?_ ?_⟩
 ·rintro i v σ H2 hx ⟨v3,v4,v5,v6,S0,af0,rfl,s3,D0,hS0⟩
  obtain⟨b,hb,rfl⟩:=j3 hx
  obtain⟨l,hl,dx,vn,vu,vl,g1,⟨t0,rfl,g2⟩,g3,g4⟩:=ix pa hb
  have vQ:l.nm∈ls.map (·.nm):=aaa (Vs hl)
  refine⟨_,rfl,b,A.gJ,dx,_,_,rfl,s3 _ _ (s1 _ _ g1),O.iM,O.gH,iZ,L2.jI,fun c hc=>?_⟩
  have SD:H1 c=none:=s3.free hc
  have s4:gj H1 (L2.upd H2 c (.lst [.ref t0])):=s3.new hc
  obtain⟨n0,r0⟩:=JH cl tp Pz l.nm S0
  refine⟨fun m σ H3=>∃(v5 v6:Option V)(sk S:List Nm)(af:Nm→List Nm)(cv:List V),σ=[rr a,rr st,rr h,rr b,rr c,v5,v6,none]∧Run sf (1+ls.length*ls.length) m sk S∧gj H1 H3∧H3 c=some (.lst cv)∧Paired (lx H3) cv sk.reverse∧o8 ls H1 H3 h S af∧(∀y∈sk,y∈ls.map (·.nm))∧(l.nm∈sk∨l.nm∈S)∧(∀y∈S0,y∈S),
   ⟨n0,v5,v6,[l.nm],S0,af0,[.ref t0],rfl,r0,s4,b_,.cons ⟨t0,rfl,s4 _ _ (s1 _ _ g2)⟩ .nil,D0.same ((gj.refl H2).new hc),fun y hy=>by rw[List.mem_singleton.mp hy];exact vQ,.inl (by simp),fun _ z=>z⟩,?_⟩
  rintro m σ H3 ⟨v5,v6,sk,S,af,cv,rfl,run,s5,PB,Wt,D,Wu,Iu,hS⟩
  cases sk with
  | nil=>
   have:cv=[]:=by cases Wt;rfl
   subst this
   refine⟨_,rfl,false,.inl ⟨_,gF.of PB,rfl⟩,jz ?_⟩
   refine⟨_,_,_,_,S,af,rfl,s5,D,fun y hy=>?_⟩
   rw[take_snoc hl] at hy
   rcases Wl.mp hy with hy|hy
   ·exact hS _ (hS0 y hy)
   ·rw[List.mem_singleton.mp hy]
    exact Iu.elim (fun z=>by cases z) id
  | cons x sk=>
   rw[List.reverse_cons] at Wt
   obtain⟨Iy,vx,rfl,SE,t,rfl,ht⟩:=Eo Wt
   have Uq:x∈ls.map (·.nm):=Wu x aav
   have SF:∀y∈sk,y∈ls.map (·.nm):=fun y hy=>Wu y (aaj _ hy)
   have Nn:Iy.length=sk.length:=by have:=aan SE;rwa [abi] at this
   refine⟨_,rfl,true,.inl ⟨_,gF.of PB,by simp⟩,l6 ?_⟩
   obtain⟨n,hn,run'⟩:∃n,m=n+1∧(x∈S∧Run sf (1+ls.length*ls.length) n sk S∨x∉S∧DY sf S x=[]∧Run sf (1+ls.length*ls.length) n sk (S++[x])∨x∉S∧DY sf S x≠[]∧Run sf (1+ls.length*ls.length) n ((DY sf S x).reverse++x::sk) S):=by
    cases run with
    | skip z1 _ z2=>exact⟨_,rfl,.inl ⟨z1,z2⟩⟩
    | fin z1 z2 _ z3=>exact⟨_,rfl,.inr (.inl ⟨z1,z2,z3⟩)⟩
    | push z1 z2 _ z3=>exact⟨_,rfl,.inr (.inr ⟨z1,z2,z3⟩)⟩
   have Ql:sk.length+1≤16000001:=by have:=GJ run;rw[aaf] at this;omega
   subst hn
   refine⟨fun σ H4=>∃(v5 v6:Option V)(sk S:List Nm)(af:Nm→List Nm)(cv:List V),σ=[rr a,rr st,rr h,rr b,rr c,v5,v6,none]∧Run sf (1+ls.length*ls.length) n sk S∧gj H1 H4∧H4 c=some (.lst cv)∧Paired (lx H4) cv sk.reverse∧o8 ls H1 H4 h S af∧(∀y∈sk,y∈ls.map (·.nm))∧(l.nm∈sk∨l.nm∈S)∧(∀y∈S0,y∈S),fun σ' H' z=>⟨n,abZ n,z⟩,?_⟩
   refine⟨_,rfl,.inl ⟨rfl,_,gF.of PB⟩,c,_,.ref t,rfl,rfl,PB,by simp,?_⟩
   rw[List.dropLast_concat]
   have D4:o8 ls H1 (L2.upd H3 c (.lst Iy)) h S af:=D.lst PB
   have s6:gj H1 (L2.upd H3 c (.lst Iy)):=s5.upd SD
   have p4:Paired (lx (L2.upd H3 c (.lst Iy))) Iy sk.reverse:=Paired.kJ SE fun _ _ z=>z.upd PB (fun _ z=>by cases z)
   have Qr:L2.upd H3 c (.lst Iy) t=some (nT x):=by rw[e_ (i4 ht PB (fun z=>by cases z))];exact ht
   have Qs:L2.upd H3 c (.lst Iy) c=some (.lst Iy):=b_
   generalize L2.upd H3 c (.lst Iy)=H4 at D4 s6 p4 Qr Qs ⊢
   obtain⟨⟨kvs,e1,e2,e3⟩,Ww,good⟩:=id D4
   refine⟨_,rfl,_,rfl,h,_,rfl,i7.t (k:=nk x) e1 Qr,_,rfl,?_⟩
   rw[keys_has e2 x]
   rcases run' with⟨Nr,r⟩|Nt
   ·rw[Vy Nr]
    refine l6 ⟨_,_,sk,S,af,Iy,rfl,r,s6,Qs,p4,D4,SF,?_,hS⟩
    exact Iu.elim (fun z=>(Wg.mp z).elim (fun z=>.inr (z▸Nr)) .inl) .inr
   ·have Nr:x∉S:=Nt.elim (·.1) (·.1)
    rw[aab Nr]
    refine jz ?_
    obtain⟨dk,Wx,hd2⟩:=Wr x Uq
    have Wy:=s6 _ _ Wx
    have SG:ad x≠h:=gh Wx hh
    refine⟨_,rfl,_,rfl,st,.ref (ad x),rfl,?_,ad x,dk,rfl,Wy,fun o uz=>?_⟩
    ·have:=i7.t (k:=nk x) (s6 _ _ MG) Qr
     rw[Sy x Uq] at this
     exact this
    have Wz:∀{y:Addr} {u:HO},y≠ad x→H4 y=some u→L2.upd H4 (ad x) (.nc o (.dT dk)) y=some u:=fun ny e=>by rw[e_ ny];exact e
    refine Ju (d:=ad x) (o:=o) (kvs:=dk) (by rw[sD hd2];exact aac (SA x) (by decide)) (fun i ys σ H5=>∃(v7:Option V),σ=[rr a,rr st,rr h,rr b,rr c,rr t,v6,v7]∧H5=L2.upd H4 (ad x) (.nc o (.dT dk))∧ys.length≤i∧Paired (lx (L2.upd H4 (ad x) (.nc o (.dT dk)))) ys (((sf x).take i).filter fun y=>y∉S))
     ⟨none,rfl,rfl,Vx _,.nil⟩ (by rintro _ _ _ _ ⟨_,_,e,e4,_⟩;subst e;exact⟨b_,e4⟩) ?_ ?_
    ·rintro i k v tb ys σ H5 hi WA ⟨v7,rfl,rfl,e4,e5⟩
     obtain⟨y,hy,rfl⟩:=Em hd2 hi
     refine⟨_,rfl,_,rfl,h,_,rfl,i7.t (k:=nk y) (Wz SG.symm e1) WA,_,rfl,?_⟩
     rw[keys_has e2 y,take_snoc hy,aaH]
     by_cases hm:y∈S
     ·rw[Vy hm]
      refine jz ⟨_,rfl,rfl,by omega,?_⟩
      rw[aag (by simpa using hm),aaY,aaJ]
      exact e5
     ·rw[aab hm]
      refine l6 ⟨_,rfl,_,rfl,rfl,M4,?_⟩
      rw[YK (by simpa using hm),aaY]
      exact iy e5 ⟨tb,rfl,WA⟩
    ·rintro ys σ H5 ⟨v7,rfl,rfl,e4,e5⟩ p hp
     rw[sD hd2,aak] at e5
     have Nq:p≠ad x:=fun z=>by rw[z,b_] at hp;cases hp
     have SH:H4 p=none:=by rw[e_ Nq] at hp;exact hp
     refine⟨ad x,o,_,by rw[e_ Nq.symm];exact b_,uz,?_⟩
     rw[B3 Wy Nq]
     have pm:Paired (lx H4) ys (DY sf S x):=Paired.kJ e5 fun v y ⟨tb,e,z⟩=>⟨tb,e,by
      have:tb≠ad x:=fun w=>by rw[w,b_] at z;cases z
      rwa [e_ this] at z⟩
     have s7:gj H4 (L2.upd H4 p (.lst ys)):=(gj.refl H4).new SH
     have Qt:ys.length=(DY sf S x).length:=aan pm
     refine⟨_,rfl,!ys.isEmpty,.inl ⟨_,gF.of b_,rfl⟩,?_⟩
     rcases Nt with⟨_,Ur,r⟩|⟨_,Ur,r⟩
     ·
      have:ys=[]:=aaE.mp (by rw[Qt,Ur];rfl)
      subst this
      refine jz ?_
      have CS:=B8.mp Ur
      refine⟨_,rfl,_,rfl,st,.ref (ad x),rfl,?_,_,rfl,ad x,h,sf x,kvs,af,rfl,⟨dk,s7 _ _ Wy,hd2⟩,SG,s7 _ _ e1,fun y hy=>?_,SA x,fun y hy=>?_,fun p2 H6 rs s8 AG Sg nd2 hm2=>?_⟩
      ·have:=i7.t (k:=nk x) (s7 _ _ (s6 _ _ MG)) (s7 _ _ Qr)
       rw[Sy x Uq] at this
       exact this
      ·obtain⟨bb,z1,z2,z3,Px,z4,z5⟩:=e3 y (CS y hy)
       exact⟨bb,z1,(gh Wx z3).symm,Px,s7 _ _ z4,z5⟩
      ·obtain⟨z1,z2,z3⟩:=good y (CS y hy)
       have:=len_sub (ys:=ls.map (·.nm)) z2 fun m hm=>(cl.ah ((z3 m).mp hm)).1
       rw[So] at this;omega
      ·have s9:=s7.trans s8
       have hSl:S.length≤4000:=by
        have:=len_sub (ys:=ls.map (·.nm)) Ww fun m hm=>(good m hm).1
        rw[So] at this;omega
       have e6:H6 h=some (.dT kvs):=s9 _ _ e1
       refine⟨_,rfl,_,rfl,h,_,rfl,nv.t (k:=nk x) e6 (s9 _ _ Qr) (by rw[sD e2];omega),?_⟩
       have SI:p2≠h:=(gh (s7 _ _ e1) AG).symm
       have WB:H1 p2=none:=(s6.trans s7).free AG
       have key:putK kvs (nk x) (V.ref p2)=kvs++[(nk x,V.ref p2)]:=DI _ (Ek (by rw[e2];exact fun z=>Nr (sA.mp z)))
       have hhT:H1 h=none:=hh
       refine⟨_,_,sk,S++[x],fun y=>if y=x then rs else af y,Iy,rfl,r,(s6.trans s9).upd hhT,?_,?_,⟨⟨_,b_,?_,fun y hy=>?_⟩,?_,fun y hy=>?_⟩,SF,?_,fun y hy=>YI _ (hS y hy)⟩
       ·rw[e_ (i4 (s9 _ _ Qs) e6 (fun z=>by cases z))];exact s9 _ _ Qs
       ·exact Paired.kJ p4 fun _ _ z=>(z.same s9).upd e6 (fun _ z=>by cases z)
       ·rw[key,aat,e2,aat];rfl
       ·show ∃bb,iN (putK kvs (nk x) (V.ref p2)) (nk y)=some (V.ref bb)∧bb≠h∧H1 bb=none∧AU _ bb (if y=x then rs else af y)
        rw[j4]
        by_cases e:y=x
        ·subst e
         rw[aaq rfl,aaq rfl]
         obtain⟨Px,w1,w2⟩:=Sg
         exact⟨p2,rfl,SI,WB,Px,by rw[e_ SI];exact w1,w2⟩
        ·rw[aal (fun z=>e (o7 z)),aal e]
         have hyS:y∈S:=(Wl.mp hy).elim id fun z=>absurd (List.mem_singleton.mp z) e
         obtain⟨bb,z1,z2,z3,Px,z4,z5⟩:=e3 y hyS
         exact⟨bb,z1,z2,z3,Px,by rw[e_ z2];exact s9 _ _ z4,z5⟩
       ·rw[aaZ]
        exact⟨Ww,by simp,fun u hu w hw z=>Nr (by rw[List.mem_singleton.mp hw] at z;have z:u=x:=z;exact z▸hu)⟩
       ·show y∈ls.map (·.nm)∧(if y=x then rs else af y).Nodup∧∀m,m∈(if y=x then rs else af y)↔Ah ls m y
        by_cases e:y=x
        ·subst e
         rw[aaq rfl]
         refine⟨Uq,nd2,fun m=>?_⟩
         rw[hm2 m,Ah.last]
         constructor
         ·rintro⟨u,hu,z⟩
          have Um:=((Pz y).2 u).mp hu
          rcases z with z|z
          ·exact .inl (z▸Um)
          ·exact .inr ⟨u,((good u (CS u hu)).2.2 m).mp z,Um⟩
         ·rintro(z|⟨u,z1,z2⟩)
          ·exact⟨m,((Pz y).2 m).mpr z,.inl rfl⟩
          ·have hu:=((Pz y).2 u).mpr z2
           exact⟨u,hu,.inr (((good u (CS u hu)).2.2 m).mpr z1)⟩
        ·rw[aal e]
         exact good y ((Wl.mp hy).elim id fun z=>absurd (List.mem_singleton.mp z) e)
       ·exact Iu.elim (fun z=>(Wg.mp z).elim (fun z=>.inr (by rw[z];simp)) .inl) fun z=>.inr (YI _ z)
     ·
      have hys:(!ys.isEmpty)=true:=by
       cases ys with
       | nil=>exact absurd (aaE.mp Qt.symm) Ur
       | cons _ _=>rfl
      refine Jm hys ?_
      have E2:=GJ r
      rw[Vq,abi,aaf] at E2
      have Us:=s7 _ _ Qs
      refine⟨_,rfl,.inl ⟨rfl,_,gF.of Us⟩,_,rfl,c,_,_,rfl,rfl,Us,by omega,?_⟩
      have hpc:p≠c:=(gh Qs SH).symm
      refine⟨_,rfl,.inl ⟨rfl,_,gF.of b_⟩,_,rfl,c,p,_,_,rfl,rfl,b_,by rw[e_ hpc];exact b_,by rw[Vq];show Iy.length+1+ys.length≤_;omega,?_⟩
      refine⟨_,_,(DY sf S x).reverse++x::sk,S,af,_,rfl,r,((s6.trans s7).upd SD).upd SD,b_,?_,((D4.same s7).lst Us).lst b_,fun y hy=>?_,?_,hS⟩
      ·rw[List.reverse_append,List.reverse_reverse,List.reverse_cons]
       refine Paired.kJ (F:=lx (L2.upd H4 p (.lst ys))) (uv (iy (Paired.kJ p4 fun _ _ z=>z.same s7) ⟨t,rfl,s7 _ _ Qr⟩) (Paired.kJ pm fun _ _ z=>z.same s7)) fun _ _ z=>?_
       exact(z.upd Us (fun _ z=>by cases z)).upd b_ (fun _ z=>by cases z)
      ·rcases Wl.mp hy with hy|hy
       ·have hy:=(aam.mp (List.mem_reverse.mp hy)).1
        exact(cl.sa (((Pz x).2 y).mp hy)).1
       ·exact Wu y hy
      ·exact Iu.elim (fun z=>.inl (aaA _ z)) .inr
 ·rintro σ H2 ⟨v3,v4,v5,v6,S,af,rfl,s3,⟨⟨kvs,e1,e2,e3⟩,Ww,good⟩,hS⟩
  rw[So,hlen,aak] at hS
  refine⟨_,rfl,q h _ (s1.trans s3) (s1.free hh) ⟨kvs,e1,fun n hn=>?_⟩⟩
  obtain⟨l,hl,rfl⟩:=List.mem_map.mp hn
  obtain⟨bb,z1,z2,z3,dk,z4,z5⟩:=e3 _ (hS l hl)
  exact⟨bb,dk,z1,z4,fun m=>by rw[s_,z5,sA];exact(good _ (hS l hl)).2.2 m⟩
theorem JW{κ:Type}[DecidableEq κ]:∀{kvs:List (κ×V)} {i:Nat} {k:κ} {v:V},(kvs.map (·.1)).Nodup→kvs[i]?=some (k,v)→iN kvs k=some v
 | [],_,_,_,_,h=>by simp at h
 | p::r,i,k,v,nd,h=>by
  rw[aaw,aaX] at nd
  cases i with
  | zero=>simp at h;subst h;exact jj rfl
  | succ i=>
   have h:r[i]?=some (k,v):=by simpa using h
   have hm:k∈r.map (·.1):=List.mem_map.mpr ⟨_,Vs h,rfl⟩
   rw[je (fun z=>nd.1 (by rw[z];exact hm))]
   exact JW nd.2 h
theorem JX{κ:Type}[DecidableEq κ](kvs:List (κ×V))(k j:κ)(h:j≠k):iN (jP kvs k) j=iN kvs j:=by
 induction kvs with
 | nil=>rfl
 | cons p r ih=>
  by_cases e:p.1=k
  ·rw[wb e,ih,je (fun z=>h (z.symm.trans e))]
  ·rw[wc e]
   by_cases e2:p.1=j
   ·rw[jj e2,jj e2]
   ·rw[je e2,je e2,ih]
theorem HL{kvs:List (List Key×V)}{rem:List Ln}{n:Nm}(h:kvs.map (·.1)=rem.map fun l=>nk l.nm):(jP kvs (nk n)).map (·.1)=(rem.filter fun o=>o.nm≠n).map fun l=>nk l.nm:=by
 induction kvs generalizing rem with
 | nil=>cases rem with|nil=>rfl|cons _ _=>cases h
 | cons p r ih=>
  cases rem with
  | nil=>cases h
  | cons x t=>
   rw[aaw,aaw] at h
   injection h with h1 h2
   by_cases e:x.nm=n
   ·rw[wb (by rw[h1,e]),aag (by simpa using e)]
    exact ih h2
   ·rw[wc (fun z=>e (o7 (h1.symm.trans z))),YK (by simpa using e),aaw,aaw,ih h2,h1]
structure Wait(kw:List (List Key×V))(rem:List Ln)(f:Ln→Nat):Prop where
 keys:kw.map (·.1)=rem.map fun l=>nk l.nm
 val:∀o∈rem,iN kw (nk o.nm)=some (.int (f o:Nat))
theorem Wait.len{kw:List (List Key×V)}{rem:List Ln}{f:Ln→Nat}(w:Wait kw rem f):kw.length=rem.length:=by
 have:=aa2 List.length w.keys
 rwa [So,So] at this
theorem OG{rem:List Ln}:(rem.map fun l=>nk l.nm)=(rem.map (·.nm)).map nk:=by rw[List.map_map];rfl
theorem Rv{xs:List Nm}(h:xs.Nodup):(xs.map nk).Nodup:=by
 induction xs with
 | nil=>exact abg
 | cons x r ih=>
  rw[aaX] at h
  rw[aaw,aaX]
  exact⟨fun z=>h.1 (sA.mp z),ih h.2⟩
theorem Wait.nd{kw:List (List Key×V)}{rem:List Ln}{f:Ln→Nat}(w:Wait kw rem f)(h:(rem.map (·.nm)).Nodup):(kw.map (·.1)).Nodup:=by rw[w.keys,OG];exact Rv h
theorem Wait.get{kw:List (List Key×V)}{rem:List Ln}{f:Ln→Nat}(w:Wait kw rem f)(h:(rem.map (·.nm)).Nodup){i:Nat}{k:List Key}{v:V}(hi:kw[i]?=some (k,v)):∃o,rem[i]?=some o∧k=nk o.nm∧v=.int (f o:Nat):=by
 have h1:(kw.map (·.1))[i]?=some k:=by rw[aae,hi];rfl
 rw[w.keys,aae] at h1
 obtain⟨o,e,e2⟩:=Option.map_eq_some_iff.mp h1
 refine⟨o,e,e2.symm,?_⟩
 have h2:=JW (w.nd h) hi
 rw[←e2,w.val o (Vs e)] at h2
 exact(aaz h2).symm
def VB:Sp:=fun vs H Q _=>∃(d:Addr)(kw:List (List Key×V))(rem:List Ln)(f:Ln→Nat)(l:Ln),vs=[.ref d]∧H d=some (.dT kw)∧Wait kw rem f∧(rem.map (·.nm)).Nodup∧rem.find? (fun o=>f o ==0)=some l∧∀t,H t=some (nT l.nm)→Q (.ref t) H
theorem AV(T:Txt mg)(O:Ok K mg A):ij P w K mg base l5 1 A.vg A.vj ["waiting"] VB:=by
 refine O.zQ.f.p_ tL fun jm A0 outer s H vs Q E hr h=>?_
 obtain⟨d,kw,rem,f,l,rfl,hd,W,nd,hf,q⟩:=h
 refine⟨_,(de (yR (iu aap rfl (zr (pv 0)) (rf 1 tL) (f_ (ir (ib lX (zt hr (pv 0) (pv 1)) gg (iA _)) (f_ (gR (pv 1))) g_))))
   (f_ (gR t_))),?_⟩
 refine K5 ?_;intro _
 refine⟨_,rfl,d,kw,rfl,hd,fun o uz=>?_⟩
 let Jv:=fun(i:Nat) (σ:St) (H2:Hp)=>∃(v:Option V),σ=[rr d,v]∧H2=L2.upd H d (.nc o (.dT kw))∧(rem.drop i).find? (fun o=>f o ==0)=some l
 refine Bp (d:=d) (o:=o) (kvs:=kw) Jv ⟨none,rfl,rfl,hf⟩ (by rintro _ _ _ ⟨_,_,e,_⟩;subst e;exact b_) ?_ ?_
 ·rintro i k v t σ H2 hi ht ⟨v0,rfl,rfl,h1⟩
  obtain⟨x,hx,rfl,rfl⟩:=W.get nd hi
  have kB:i<rem.length:=(List.getElem?_eq_some_iff.mp hx).1
  have WC:rem.drop i=x::rem.drop (i+1):=by rw[aaP kB];congr 1;exact(List.getElem?_eq_some_iff.mp hx).2
  rw[WC] at h1
  refine⟨_,rfl,_,rfl,d,_,rfl,.inr ⟨kw,nk x.nm,t,.inr ⟨o,b_⟩,rfl,ht,(W.val x (Vs hx)).symm⟩,rfl,_,rfl,?_⟩
  refine kq (fun h=>?_) (fun h=>?_)
  ·have h:f x=0:=by have:=V.int.inj (aau h);omega
   rw[List.find?_cons_of_pos (by simpa using h)] at h1
   cases h1
   refine⟨_,rfl,d,o,_,b_,uz,?_⟩
   rw[wu hd]
   exact q t (by
    have:t≠d:=fun z=>by rw[z,b_] at ht;cases ht
    rwa [e_ this] at ht)
  ·have h:¬f x=0:=fun z=>h (Vy (by rw[z];rfl))
   rw[List.find?_cons_of_neg (by simpa using h)] at h1
   exact⟨_,rfl,rfl,h1⟩
 ·rintro σ H2 ⟨v0,rfl,rfl,h1⟩
  rw[W.len,acg] at h1
  cases h1
end
section
open Classical
noncomputable def og(lt:Nm→Nm→Prop)(rem:List Ln)(l:Ln):Nat:=(rem.filter fun o=>decide (lt o.nm l.nm)).length
theorem JY(lt:Nm→Nm→Prop)(rem:List Ln):(fun o=>og lt rem o ==0)=free lt rem:=by
 funext o
 unfold og free
 rw[abl,abK,aaE,List.filter_eq_nil_iff,aa3]
 exact⟨fun h x hx=>by simpa using h x hx,fun h x hx=>by simpa using h x hx⟩
theorem JZ{lt:Nm→Nm→Prop}{rem:List Ln}(nd:(rem.map (·.nm)).Nodup){l:Ln}(hl:l∈rem)(o:Ln):og lt rem o=og lt (rem.filter fun x=>x.nm≠l.nm) o+if lt l.nm o.nm then 1 else 0:=by
 unfold og
 induction rem with
 | nil=>cases hl
 | cons x r ih=>
  rw[aaw,aaX] at nd
  rcases Wg.mp hl with rfl|hl
  ·have e:r.filter (fun x=>decide (x.nm≠l.nm))=r:=List.filter_eq_self.mpr fun y hy=>Vy fun z=>nd.1 (z▸aaa hy)
   rw[aag (p:=fun x:Ln=>decide (x.nm≠l.nm)) (by simp),e]
   by_cases h:lt l.nm o.nm
   ·rw[YK (by simpa using h),aaq h,aaf]
   ·rw[aag (by simpa using h),aal h,Nat.add_zero]
  ·have hx:x.nm≠l.nm:=fun z=>nd.1 (z▸aaa hl)
   rw[YK (p:=fun x:Ln=>decide (x.nm≠l.nm)) (by simpa using hx)]
   by_cases h:lt x.nm o.nm
   ·rw[YK (by simpa using h),YK (by simpa using h),aaf,aaf,ih nd.2 hl];omega
   ·rw[aag (by simpa using h),aag (by simpa using h),ih nd.2 hl]
end
theorem J0{lt:Nm→Nm→Prop}{n:Nat}{rem:List Ln}{l:Ln}(h:rem.find? (free lt rem)=some l):tJ lt (n+1) rem=l::tJ lt n (rem.filter fun o=>o.nm≠l.nm):=by
 rw[tJ,h]
section
variable{P:Program}{w:World}{K:Qqy}{mg:Qqx}{base:Heap}{A:Ad}
def Rw(A:Ad):Sp:=fun vs H Q _=>∃(a h:Addr)(ls al:List Ln),vs=[.ref a,.ref h]∧qB A H a ls∧Cv H h al∧uw ls.length∧(ls.map (·.nm)).Nodup∧(∀l∈ls,l.nm∈al.map (·.nm))∧JG al∧
 ∀p H',gj H H'→H p=none→qB A H' p (rowOf (Ah al) ls)→Q (.ref p) H'
theorem HM(T:Txt mg)(O:Ok K mg A):ij P w K mg base l5 2 A.Ee A.Ef ["lines","ahead"] (Rw A):=by
 have CU:=@AV P w K mg base A T O
 refine O.JQ.f.p_ lb fun jm A0 outer s H vs Q E hr h=>?_
 obtain⟨a,h,ls,al,rfl,⟨as,ha,pa⟩,⟨kh,MH,Zh⟩,jI,nd,A7,tp,q⟩:=h
 have hlen:=aan pa
 have yK:ls.length≤4000:=jI
 have sz:sizeLine=16777216:=aay
 have tpl:∃rk:Nm→Nat,∀m n,Ah al m n→rk m<rk n:=by obtain⟨rk,r⟩:=tp;exact⟨rk,fun m n z=>r.ah z⟩
 refine⟨_,(de (lu 2 lb mD)
   (de (lu 3 lb mD)
   (de (iu aap rfl (ie (pv 0)) (iz (i:=4) lb.nd rfl (Or.inr rfl)) (de (jy (by exact iV hr) (pv 2) (gC (pv 4) rfl) (pv 4) rfl)
   (f_ (jy (by exact iV hr) (pv 3) (gC (pv 4) rfl) (gA gp (by rfl) T.jh aao (a_ (wg D3 (gb uY).names [7] rfl (ie (pv 0)) rfl (by decide+kernel) (fun _ _ _ _=>(iz (i:=7) lb.nd rfl (Or.inl rfl))) (fun _ _ _ _=>⟨_,nI (jv (oZ (by exact iV hr) (gC (pv 7) rfl) (zt hr (pv 1) (gC (pv 4) rfl)))),by(try simp only [kD]);rfl⟩) (fun _ _ _ _=>AF (pv 7))) d_)) rfl))))
   (de (lu 5 lb (iU d_))
   (de (Ds aap (Hy (pv 3) (fun _=>rfl)) (de (lu 6 lb (nE O.zQ CU hr (a_ (pv 3) d_)))
   (de (gM (JB (by exact iV hr) (pv 3) (pv 6) ⟨rfl,rfl,rfl,rfl⟩))
   (de (gM (ow aaF aaQ aaR j8 (pv 5) (a_ (zt hr (pv 2) (pv 6)) d_)))
   (f_ (iu aap rfl (ie (sS (yw rfl) (by rfl) T.rQ abe (a_ (pv 3) d_))) (rf 7 lb) (f_ (ir (jv (oZ (by exact iV hr) (pv 6) (zt hr (pv 1) (pv 7)))) (f_ (jy (by exact iV hr) (pv 3) (pv 7) (gz y8 (zt hr (pv 3) (pv 7)) gg) rfl)) g_))))))))
   (f_ (gR (pv 5)))))))),?_⟩
 refine Rc ?_;intro _ _ _ _ _
 intro bn SJ wt Qu
 have s1:gj H (L2.upd (L2.upd H bn (.dT [])) wt (.dT [])):=((gj.refl H).new SJ).new Qu
 have PD:H wt=none:=((gj.refl H).new (o:=.dT []) SJ).free Qu
 have SK:bn≠wt:=fun z=>by rw[z,b_] at Qu;cases Qu
 dsimp only [k7];refine Ht ?_;intro _
 let Jv:=fun(i:Nat) (σ:St) (H2:Hp)=>∃(v4:Option V)(kb kw:List (List Key×V)),σ=[rr a,rr h,rr bn,rr wt,v4,none,none,none]∧gj H H2∧H2 bn=some (.dT kb)∧H2 wt=some (.dT kw)∧kb.length≤i∧(∀l∈ls.take i,∃b,iN kb (nk l.nm)=some (.ref b)∧mY A H b l)∧Wait kw (ls.take i) (og (Ah al) ls)
 refine⟨_,rfl,a,rfl,⟨_,gF.of (s1 _ _ ha)⟩,iH (K:=K) (a:=a) (xs:=as.map V.ref) Jv
  ⟨none,[],[],rfl,s1,by rw[e_ SK];exact b_,b_,Vx _,(fun l hl=>by rw[abx] at hl;cases hl),⟨rfl,(fun l hl=>by rw[abx] at hl;cases hl)⟩⟩ (by rintro _ _ _ _ ⟨_,_,_,_,s3,_⟩;exact gF.of (s3 _ _ ha)) ?_ ?_⟩
 ·rintro i v σ H2 hx ⟨v4,kb,kw,rfl,s3,h1,h2,h3,h4,W⟩
  obtain⟨b,hb,rfl⟩:=j3 hx
  obtain⟨l,hl,dx,vn,vu,vl,g1,⟨t,rfl,g2⟩,g3,g4⟩:=ix pa hb
  have La:l∈ls:=Vs hl
  have hi:i<ls.length:=(List.getElem?_eq_some_iff.mp hl).1
  have Aj:∀x∈ls.take i,x.nm≠l.nm:=fun x hx z=>by
   obtain⟨j,hj⟩:=aaL.mp hx
   have Ik:j<i:=by have:=(List.getElem?_eq_some_iff.mp hj).1;rw[aaB] at this;omega
   rw[abN,aaq Ik] at hj
   have e1:(ls.map (·.nm))[j]?=some l.nm:=by rw[aae,hj,←z];rfl
   have e2:(ls.map (·.nm))[i]?=some l.nm:=by rw[aae,hl];rfl
   have:=(abY (List.getElem?_eq_some_iff.mp e1).1 nd).mp (e1.trans e2.symm)
   omega
  obtain⟨bb,dk,z1,z2,z3⟩:=Zh l.nm (A7 l La)
  have We:=js kb (nk l.nm) (V.ref b)
  refine⟨_,rfl,_,rfl,_,rfl,b,A.gJ,dx,_,_,rfl,s3 _ _ g1,O.iM,O.gH,iZ,bn,_,rfl,nv.t (k:=nk l.nm) h1 (s3 _ _ g2) (by omega),?_⟩
  have s4:gj H (L2.upd H2 bn (.dT (putK kb (nk l.nm) (V.ref b)))):=s3.upd SJ
  have Mz:L2.upd H2 bn (.dT (putK kb (nk l.nm) (V.ref b))) bn=some (.dT (putK kb (nk l.nm) (V.ref b))):=b_
  have Zi:L2.upd H2 bn (.dT (putK kb (nk l.nm) (V.ref b))) wt=some (.dT kw):=by rw[e_ SK.symm];exact h2
  generalize L2.upd H2 bn (.dT (putK kb (nk l.nm) (V.ref b)))=H3 at s4 Mz Zi ⊢
  refine⟨_,rfl,a,rfl,⟨_,gF.of (s4 _ _ ha)⟩,jY (K:=K) (a:=a) (xs:=as.map V.ref) (by rw[So,hlen];omega) (fun j ys σ H4=>∃v7:Option V,σ=[rr a,rr h,rr bn,rr wt,rr b,none,none,v7]∧H4=H3∧ys.length=og (Ah al) (ls.take j) l)
   ⟨none,rfl,rfl,rfl⟩ (by rintro _ _ _ _ _ ⟨_,_,e,e2⟩;subst e;exact⟨gF.of (s4 _ _ ha),by rw[e2];unfold og;exact aac (aaG _ _) (by rw[aaB];omega)⟩) ?_ ?_⟩
  ·rintro j v ys σ H4 hx ⟨v7,rfl,rfl,e2⟩
   obtain⟨b2,PH,rfl⟩:=j3 hx
   obtain⟨l2,KA,dx2,vn2,vu2,vl2,k1,⟨t2,rfl,k2⟩,k3,k4⟩:=ix pa PH
   refine⟨_,rfl,b2,A.gJ,dx2,_,_,rfl,s4 _ _ k1,O.iM,O.gH,iZ,_,rfl,_,rfl,b,A.gJ,dx,_,_,rfl,s4 _ _ g1,O.iM,O.gH,iZ,h,.ref bb,rfl,?_,bb,_,rfl,i7.t (k:=nk l2.nm) (s4 _ _ z2) (s4 _ _ k2),_,rfl,?_⟩
   ·have:=i7.t (k:=nk l.nm) (s4 _ _ MH) (s4 _ _ g2)
    rw[z1] at this
    exact this
   ·unfold og at e2 ⊢
    rw[take_snoc KA,aaH,Vq]
    by_cases hm:Ah al l2.nm l.nm
    ·rw[(z3 l2.nm).mpr hm]
     refine l6 ⟨_,rfl,_,rfl,rfl,?_⟩
     rw[YK (by simpa using hm),aaY,Vq,e2];rfl
    ·rw[abE.mpr fun z=>hm ((z3 l2.nm).mp z)]
     refine jz ⟨_,rfl,rfl,?_⟩
     rw[aag (by simpa using hm),aaY,e2];rfl
  ·rintro ys σ H4 ⟨v7,rfl,rfl,e2⟩ p hp
   rw[So,hlen,aak] at e2
   have s5:=s4.new (o:=.lst ys) hp
   have Ir:=W.len
   rw[aaB] at Ir
   refine⟨p,_,rfl,.inl (gF.of b_),_,rfl,_,rfl,b,A.gJ,dx,_,_,rfl,s5 _ _ g1,O.iM,O.gH,iZ,wt,_,rfl,nv.t (k:=nk l.nm) (il hp Zi) (s5 _ _ g2) (by omega),?_⟩
   refine⟨_,_,_,rfl,s5.upd PD,by rw[e_ SK];exact il hp Mz,b_,by omega,fun x hx=>?_,⟨?_,fun x hx=>?_⟩⟩
   ·rw[take_snoc hl] at hx
    rcases Wl.mp hx with hx|hx
    ·obtain⟨c,c1,c2⟩:=h4 x hx
     exact⟨c,by rw[j4,aal (fun z=>Aj x hx (o7 z))];exact c1,c2⟩
    ·rw[List.mem_singleton.mp hx]
     exact⟨b,by rw[j4,aaq rfl],dx,_,vu,vl,g1,⟨t,rfl,g2⟩,g3,g4⟩
   ·rw[p7,W.keys,take_snoc hl,aat]
    exact aal fun z=>by
     obtain⟨x,hx,e⟩:=List.mem_map.mp z
     exact Aj x hx (o7 e)
   ·rw[take_snoc hl] at hx
    rw[j4]
    rcases Wl.mp hx with hx|hx
    ·rw[aal (fun z=>Aj x hx (o7 z))];exact W.val x hx
    ·rw[List.mem_singleton.mp hx,aaq rfl,e2]
 ·rintro σ H2 ⟨v4,kb,kw,rfl,s3,h1,h2,h3,h4,W⟩
  have el:(as.map V.ref).length=ls.length:=by rw[So];exact hlen
  rw[el,aak] at h4 W
  refine⟨L2.jI,fun r tF=>?_⟩
  have Zj:H r=none:=s3.free tF
  have hrb:bn≠r:=gh h1 tF
  have SM:wt≠r:=gh h2 tF
  obtain⟨rk,Pw⟩:=tpl
  refine⟨fun m σ H3=>∃(v6 v7:Option V)(kw:List (List Key×V))(rem row:List Ln)(rs:List Addr),m=rem.length∧σ=[rr a,rr h,rr bn,rr wt,v4,rr r,v6,v7]∧gj H H3∧H3 bn=some (.dT kb)∧H3 wt=some (.dT kw)∧H3 r=some (.lst (rs.map V.ref))∧Paired (mY A H) rs row∧Wait kw rem (og (Ah al) rem)∧rem.Sublist ls∧row.length+rem.length=ls.length∧row++tJ (Ah al) rem.length rem=rowOf (Ah al) ls,
   ⟨ls.length,none,none,kw,ls,[],[],rfl,rfl,s3.new tF,il tF h1,il tF h2,b_,.nil,W,aaC _,by simp,rfl⟩,?_⟩
  rintro m σ H3 ⟨v6,v7,kw,rem,row,rs,rfl,rfl,s4,b1,w1,r1,pr,W,sub,hsum,EK⟩
  have Ut:(rem.map (·.nm)).Nodup:=(sub.map _).nodup nd
  refine⟨_,rfl,wt,kw,rfl,w1,?_⟩
  have Ir:=W.len
  cases rem with
  | nil=>
   have:kw=[]:=aaE.mp Ir
   subst this
   refine jz ⟨_,rfl,q r _ s4 Zj ⟨rs,r1,?_⟩⟩
   rw[show tJ (Ah al) ([]:List Ln).length []=[] from rfl,aaJ] at EK
   rw[←EK]
   exact Paired.kJ pr fun _ _ z=>z.same s4
  | cons x0 WD=>
   generalize WE:x0::WD=rem at *
   have sJ:rem≠[]:=by rw[←WE];exact fun z=>by cases z
   obtain⟨l,KN⟩:=xA (lt:=Ah al) Pw rem sJ
   have PJ:l∈rem:=List.mem_of_find?_eq_some KN
   have SN:l∈ls:=sub.subset PJ
   have Nu:=pF Ut PJ
   refine Jm (by cases kw with|nil=>exact absurd (aaE.mp Ir.symm) sJ|cons _ _=>rfl) ?_
   refine⟨fun σ H4=>∃(v6 v7:Option V)(kw:List (List Key×V))(lW row:List Ln)(rs:List Addr),lW.length<rem.length∧σ=[rr a,rr h,rr bn,rr wt,v4,rr r,v6,v7]∧gj H H4∧H4 bn=some (.dT kb)∧H4 wt=some (.dT kw)∧H4 r=some (.lst (rs.map V.ref))∧Paired (mY A H) rs row∧Wait kw lW (og (Ah al) lW)∧lW.Sublist ls∧row.length+lW.length=ls.length∧row++tJ (Ah al) lW.length lW=rowOf (Ah al) ls,
    fun σ' H' ⟨u6,u7,SO,lW,WG,rs2,kB,z⟩=>⟨lW.length,kB,u6,u7,SO,lW,WG,rs2,rfl,z⟩,?_⟩
   refine⟨_,rfl,wt,kw,rem,og (Ah al) rem,l,rfl,w1,W,Ut,by rw[JY];exact KN,fun t ht=>?_⟩
   have CT:=W.val l PJ
   refine⟨_,rfl,wt,rfl,.inr ⟨_,.inl w1⟩,_,rfl,t,kw,nk l.nm,_,rfl,w1,ht,CT,?_⟩
   have s5:gj H (L2.upd H3 wt (.dT (jP kw (nk l.nm)))):=s4.upd PD
   have b2:L2.upd H3 wt (.dT (jP kw (nk l.nm))) bn=some (.dT kb):=by rw[e_ SK];exact b1
   have r2:L2.upd H3 wt (.dT (jP kw (nk l.nm))) r=some (.lst (rs.map V.ref)):=by rw[e_ SM.symm];exact r1
   have t2:L2.upd H3 wt (.dT (jP kw (nk l.nm))) t=some (nT l.nm):=by rw[e_ (i4 ht w1 (fun z=>by cases z))];exact ht
   have w2:L2.upd H3 wt (.dT (jP kw (nk l.nm))) wt=some (.dT (jP kw (nk l.nm))):=b_
   have W2:Wait (jP kw (nk l.nm)) (rem.filter fun o=>o.nm≠l.nm) (og (Ah al) rem):=⟨HL W.keys,fun o ho=>by
    have qF:=aam.mp ho
    rw[JX _ _ _ (fun z=>by have:=o7 z;simpa[this] using qF.2)]
    exact W.val o qF.1⟩
   generalize L2.upd H3 wt (.dT (jP kw (nk l.nm)))=H4 at s5 b2 r2 t2 w2 ⊢
   generalize jP kw (nk l.nm)=SO at w2 W2
   obtain⟨bl,Nh,hLn⟩:=h4 l SN
   have WH:=aan pr
   refine⟨_,rfl,.inl ⟨rfl,_,gF.of r2⟩,_,rfl,_,rfl,bn,.ref bl,rfl,?_,r,_,_,rfl,rfl,r2,by rw[So,WH];omega,?_⟩
   ·have:=i7.t (k:=nk l.nm) b2 t2
    rw[Nh] at this
    exact this
   have s6:gj H (L2.upd H4 r (.lst (rs.map V.ref++[V.ref bl]))):=s5.upd Zj
   have b3:L2.upd H4 r (.lst (rs.map V.ref++[V.ref bl])) bn=some (.dT kb):=by rw[e_ hrb];exact b2
   have w3:L2.upd H4 r (.lst (rs.map V.ref++[V.ref bl])) wt=some (.dT SO):=by rw[e_ SM];exact w2
   have t3:L2.upd H4 r (.lst (rs.map V.ref++[V.ref bl])) t=some (nT l.nm):=by rw[e_ (i4 t2 r2 (fun z=>by cases z))];exact t2
   have r3:L2.upd H4 r (.lst (rs.map V.ref++[V.ref bl])) r=some (.lst ((rs++[bl]).map V.ref)):=by rw[b_,aat];rfl
   generalize L2.upd H4 r (.lst (rs.map V.ref++[V.ref bl]))=H5 at s6 b3 w3 t3 r3 ⊢
   have G5:(rem.filter fun o=>o.nm≠l.nm).Sublist rem:=aaU
   generalize hR:(rem.filter fun o=>decide (o.nm≠l.nm))=lW at W2 G5 Nu
   have SQ:(lW.map (·.nm)).Nodup:=(G5.map _).nodup Ut
   refine⟨_,rfl,wt,SO,rfl,w3,fun p bs hp Zk=>?_⟩
   have s7:=s6.new (o:=.lst (bs.map V.ref)) hp
   have WI:=aan Zk
   have Sg:=W2.len
   let Jv:=fun(j:Nat) (σ:St) (H6:Hp)=>∃(v7:Option V)(KO:List (List Key×V)),σ=[rr a,rr h,rr bn,rr wt,v4,rr r,rr t,v7]∧gj H H6∧H6 bn=some (.dT kb)∧H6 wt=some (.dT KO)∧H6 t=some (nT l.nm)∧H6 r=some (.lst ((rs++[bl]).map V.ref))∧H6 p=some (.lst (bs.map V.ref))∧(∀b∈bs,∀xs,H5 b=some (.tup xs)→H6 b=some (.tup xs))∧KO.map (·.1)=lW.map (fun l=>nk l.nm)∧∀(i:Nat)(o:Ln),lW[i]?=some o→iN KO (nk o.nm)=some (.int ((if i<j then og (Ah al) lW o else og (Ah al) rem o:Nat):Int))
   refine⟨p,rfl,⟨_,gF.of b_⟩,iH (K:=K) (a:=p) (xs:=bs.map V.ref) Jv
    ⟨v7,SO,rfl,s7,il hp b3,il hp w3,il hp t3,il hp r3,b_,fun b _ xs e=>il hp e,W2.keys,fun i o ho=>by rw[aal (by omega)];exact W2.val o (Vs ho)⟩ (by rintro _ _ _ _ ⟨_,_,_,_,_,_,_,_,e,_⟩;exact gF.of e) ?_ ?_⟩
   ·rintro j v σ H6 hx ⟨v7,KO,rfl,s8,b4,w4,t4,r4,p4,MJ,BO,KP⟩
    obtain⟨c,hc,rfl⟩:=j3 hx
    obtain⟨⟨k,v⟩,hkv,WJ⟩:=lh Zk hc
    obtain⟨o,ho,rfl,rfl⟩:=W2.get SQ hkv
    have PL:o∈rem:=G5.subset (Vs ho)
    have WK:H6 c=some (nT o.nm):=MJ c (Vs hc) _ WJ
    obtain⟨bb,dk,z1,z2,z3⟩:=Zh o.nm (A7 o (sub.subset PL))
    have BM:=JZ (lt:=Ah al) Ut PJ o
    have Zl:∀(SR:List (List Key×V)),SR.map (·.1)=lW.map (fun l=>nk l.nm)→(∀x∈lW,x.nm≠o.nm→iN SR (nk x.nm)=iN KO (nk x.nm))→iN SR (nk o.nm)=some (.int ((og (Ah al) lW o:Nat):Int))→∀(i:Nat)(x:Ln),lW[i]?=some x→iN SR (nk x.nm)=some (.int ((if i<j+1 then og (Ah al) lW x else og (Ah al) rem x:Nat):Int)):=fun SR _ h1 h2 i x SS=>by
     by_cases e:i=j
     ·subst e
      rw[ho] at SS
      cases SS
      rw[aaq (abZ _)]
      exact h2
     ·have WL:x.nm≠o.nm:=fun z=>by
       have e1:(lW.map (·.nm))[i]?=some o.nm:=by rw[aae,SS,←z];rfl
       have e2:(lW.map (·.nm))[j]?=some o.nm:=by rw[aae,ho];rfl
       exact e ((abY (List.getElem?_eq_some_iff.mp e1).1 SQ).mp (e1.trans e2.symm))
      rw[h1 x (Vs SS) WL,KP i x SS]
      by_cases Wj:i<j
      ·rw[aaq Wj,aaq (by omega)]
      ·rw[aal Wj,aal (by omega)]
    rw[hR] at BM
    refine⟨_,rfl,_,rfl,_,rfl,h,.ref bb,rfl,?_,bb,_,rfl,i7.t (k:=nk l.nm) (s8 _ _ z2) t4,_,rfl,?_⟩
    ·have:=i7.t (k:=nk o.nm) (s8 _ _ MH) WK
     rw[z1] at this
     exact this
    by_cases hm:Ah al l.nm o.nm
    ·rw[(z3 l.nm).mpr hm]
     rw[aaq hm] at BM
     refine l6 ?_
     have SU:=KP j o ho
     rw[aal (aa4 _)] at SU
     have hg:i7 H6 wt (.ref c) (some (.int ((og (Ah al) rem o:Nat):Int))):=by
      have:=i7.t (k:=nk o.nm) w4 WK
      rw[SU] at this
      exact this
     have hk3:KO.length=lW.length:=by have:=aa2 List.length BO;rwa [So,So] at this
     refine⟨_,rfl,_,rfl,wt,_,rfl,hg,_,_,rfl,rfl,_,rfl,_,rfl,wt,_,rfl,nv.t (k:=nk o.nm) w4 WK (by omega),?_⟩
     have kk:(putK KO (nk o.nm) (V.int ((og (Ah al) rem o:Nat)-1))).map (·.1)=lW.map (fun l=>nk l.nm):=by
      rw[p7,BO]
      exact aaq (List.mem_map.mpr ⟨o,Vs ho,rfl⟩)
     refine⟨_,_,rfl,s8.upd PD,by rw[e_ SK];exact b4,b_,by rw[e_ (i4 t4 w4 (fun z=>by cases z))];exact t4,by rw[e_ SM.symm];exact r4,by rw[e_ (i4 p4 w4 (fun z=>by cases z))];exact p4,fun b hb xs e=>?_,kk,Zl _ kk (fun x _ WL=>?_) ?_⟩
     ·have:=MJ b hb xs e
      rw[e_ (i4 this w4 (fun z=>by cases z))];exact this
     ·rw[j4,aal (fun z=>WL (o7 z))]
     ·rw[j4,aaq rfl]
      have e9:((og (Ah al) rem o:Nat):Int)-1=((og (Ah al) lW o:Nat):Int):=by omega
      exact aa2 (fun z=>some (V.int z)) e9
    ·rw[abE.mpr fun z=>hm ((z3 l.nm).mp z)]
     rw[aal hm] at BM
     refine jz ⟨_,KO,rfl,s8,b4,w4,t4,r4,p4,MJ,BO,Zl KO BO (fun x _ _=>rfl) ?_⟩
     have SU:=KP j o ho
     rw[aal (aa4 _)] at SU
     rw[SU,BM,Nat.add_zero]
   ·rintro σ H6 ⟨v7,KO,rfl,s8,b4,w4,t4,r4,p4,MJ,BO,KP⟩
    have hlen2:(bs.map V.ref).length=lW.length:=by rw[So,←WI,Sg]
    refine⟨_,_,KO,lW,row++[l],rs++[bl],by omega,rfl,s8,b4,w4,r4,iy pr hLn,⟨BO,fun o ho=>?_⟩,G5.trans sub,by rw[Vq];show row.length+1+lW.length=_;omega,?_⟩
    ·obtain⟨i,hi⟩:=aaL.mp ho
     have Nj:=(List.getElem?_eq_some_iff.mp hi).1
     rw[KP i o hi,aaq (by omega)]
    ·rw[←EK,←Nu,J0 KN,aaK,hR]
     rfl
end
end PK
namespace Kp
open PySem L2
noncomputable abbrev T3:Stmt:=PK.o4
noncomputable abbrev T4:Stmt:=PK.qj
noncomputable abbrev VC:Stmt:=PK.qk
noncomputable abbrev M5:Stmt:=PK.Fz
structure Txt(mg:Qqx):Prop where
 len:mg "len"=none
 range:mg "range"=none
 max:mg "max"=none
noncomputable abbrev gi(l:List Str):List V:=l.map V.str
noncomputable def tab(old new:List Str)(i:Nat):List V:=(List.range (new.length+1)).map fun j=>V.int (K01.wy old new i j)
theorem Cy{old new:List Str}{i j:Nat}(h:j≤new.length):(tab old new i)[j]?=some (V.int (K01.wy old new i j)):=by
 unfold tab
 rw[aae,List.getElem?_range (by omega)]
 rfl
noncomputable def part(old new:List Str)(i k:Nat):List V:=(List.range (new.length+1)).map fun j=>if new.length-k≤j then V.int (K01.wy old new i j) else V.int 0
theorem GK{old new:List Str}{i k j:Nat}(h:j≤new.length)(hk:new.length-k≤j):(part old new i k)[j]?=some (V.int (K01.wy old new i j)):=by
 unfold part
 rw[aae,List.getElem?_range (by omega)]
 show some (if _ then _ else _)=_
 rw[aaq hk]
theorem zW(old new:List Str)(i k:Nat):(part old new i k).length=new.length+1:=by unfold part;rw[So,abX]
theorem J2(old new:List Str)(i:Nat):part old new i new.length=tab old new i:=by
 unfold part tab
 refine abG fun j _=>?_
 rw[aaq (by omega)]
theorem BD(old new:List Str)(i n:Nat)(h:n=new.length+1):(List.replicate n [V.int 0]).flatten=part old new i 0:=by
 subst h
 refine List.ext_getElem? fun j=>?_
 unfold part
 rw[aae]
 have e:(List.replicate (new.length+1) [V.int 0]).flatten=List.replicate (new.length+1) (V.int 0):=by
  generalize new.length+1=m
  induction m with
  | zero=>rfl
  | succ m ih=>rw[aa8,abT,ih,aa8];rfl
 rw[e,List.getElem?_replicate]
 by_cases hj:j<new.length+1
 ·rw[aaq hj,List.getElem?_range hj]
  show some _=some (if _ then _ else _)
  by_cases h2:new.length-0≤j
  ·rw[aaq h2,K01.yS (.inr (by omega))];rfl
  ·rw[aal h2]
 ·rw[aal hj,List.getElem?_eq_none_iff.mpr (by rw[abX];omega)]
  rfl
theorem Ep{old new:List Str}{i k:Nat}(h:k<new.length):(part old new i k).set (new.length-1-k) (V.int (K01.wy old new i (new.length-1-k)))=part old new i (k+1):=by
 refine List.ext_getElem? fun j=>?_
 by_cases e:j=new.length-1-k
 ·subst e
  rw[abc (by rw[zW];omega),GK (by omega) (by omega)]
 ·rw[abn (fun z=>e z.symm)]
  unfold part
  rw[aae,aae]
  by_cases hj:j<new.length+1
  ·rw[List.getElem?_range hj]
   show some (if _ then _ else _)=some (if _ then _ else _)
   by_cases h2:new.length-k≤j
   ·rw[aaq h2,aaq (by omega)]
   ·rw[aal h2,aal (by omega)]
  ·rw[List.getElem?_eq_none_iff.mpr (by rw[abX];omega)]
   rfl
theorem oA{l:List Str}{j:Nat}{x:Str}(h:l[j]?=some x):(gi l)[j]?=some (V.str x):=by rw[aae,h];rfl
section
variable{P:Program}{w:World}{K:Qqy}{mg:Qqx}{base:Heap}
theorem OH:gw ["text","new","below","counts","second"] ["text","new","below"] (gb T3):=⟨rfl,rfl,rfl,by decide+kernel,rfl,by decide+kernel,by decide+kernel⟩
def Rx:Sp:=fun vs H Q _=>∃(old new:List Str)(i:Nat)(t:Str)(n b:Addr),vs=[.str t,.ref n,.ref b]∧old[i]?=some t∧H n=some (.lst (gi new))∧H b=some (.lst (tab old new (i+1)))∧new.length≤1000∧
 ∀p H',gj H H'→H p=none→H' p=some (.lst (tab old new i))→Q (.ref p) H'
theorem Ry{f:Addr}{fd:FuncData}(F:xw K "counts_with" "counts_with" T3 f fd)(T:Txt mg):ij P w K mg base l5 1 f fd ["text","new","below"] Rx:=by
 refine F.p_ OH fun jm A outer s H vs Q E hr h=>?_
 obtain⟨old,new,i,t,n,b,rfl,ht,hn,hb,hl,k⟩:=h
 refine⟨_,de (ly (i:=3) OH.nd rfl (Or.inl rfl) (gz Fi (iU (a_ gg d_)) (gz iI (gA gp (by rfl) T.len aao (a_ (pv 1) d_)) gg)))
  (de (iu aap rfl (wj rfl T.range (a_ (gz y8 (gA gp (by rfl) T.len aao (a_ (pv 1) d_)) gg) (a_ (xq rm gg) (a_ (xq rm gg) d_)))) (iz (i:=4) OH.nd rfl (Or.inl rfl))
   (f_ (ir (ib lX (jW kC (pv 1) (pv 4) (fun _ _=>rfl)) (pv 0) (iA _))
    (f_ (BV (gz iI (jW kC (pv 2) (gz iI (pv 4) gg) (fun _ _=>rfl)) gg) (BU (pv 3) (pv 4) set_list)))
    (f_ (BV (gA (He rfl) (by rfl) T.max PyProof.Rows.boot_max (a_ (jW kC (pv 2) (pv 4) (fun _ _=>rfl)) (a_ (jW kC (pv 3) (gz iI (pv 4) gg) (fun _ _=>rfl)) d_))) (BU (pv 3) (pv 4) set_list))))))
  (f_ (gR (pv 3)))),?_⟩
 refine DO ?_;intro _ _
 refine⟨jI,fun l Nk=>?_⟩
 have Lb:(upd H l (.lst [V.int 0])) n=some (.lst (gi new)):=by rw[e_ (gh hn Nk)];exact hn
 refine⟨_,rfl,n,_,rfl,.inl (gF.of Lb),_,_,rfl,rfl,l,_,_,rfl,rfl,b_,by simp<;>omega,by simp<;>omega,by simp;have:sizeLine=2 ^ 24:=rfl;omega,fun p hp=>?_⟩
 have oh:p≠l:=fun z=>by rw[z,b_] at hp;cases hp
 have F_:H p=none:=by rw[e_ oh] at hp;exact hp
 have s0:gj H (upd H l (.lst [V.int 0])):=(gj.refl H).upd Nk
 have e0:(List.replicate (((gi new).length:Int)+1).toNat [V.int 0]).flatten=part old new i 0:=BD old new i _ (by simp<;>omega)
 rw[e0]
 have s1:gj H (upd (upd H l (.lst [V.int 0])) p (.lst (part old new i 0))):=s0.upd F_
 refine⟨_,rfl,n,_,rfl,.inl (gF.of (s1 n _ hn)),_,_,rfl,rfl,_,rfl,_,rfl,_,_,rfl,⟨by simp<;>omega,by simp<;>omega,by omega,by omega⟩,?_⟩
 have en:((((gi new).length:Int)-1) - -1).toNat=new.length:=by simp<;>omega
 rw[en]
 let Jv:=fun(m:Nat) (σ:St) (H2:Hp)=>∃v,σ=[rs t,rr n,rr b,rr p,v]∧gj H H2∧H2 p=some (.lst (part old new i m))
 refine ud Jv ⟨none,rfl,s1,b_⟩ ?_ ?_
 ·rintro m σ H2 hm ⟨v,rfl,s2,h2⟩
  obtain⟨j,hj⟩:∃j,j=new.length-1-m:=⟨_,rfl⟩
  have hjl:j<new.length:=by omega
  rw[show((gi new).length:Int)-1+(m:Int) * -1=(j:Int) by simp<;>omega]
  have PN:new[j]?=some new[j]:=Su hjl
  have B:=K01.LS ht PN
  refine⟨_,rfl,_,rfl,n,_,_,_,rfl,rfl,gF.of (s2 n _ hn),ic rfl (oA PN),_,rfl,rfl,_,rfl,?_⟩
  refine kq (fun hc=>?_) (fun hc=>?_)
  ·have hc:new[j]=t:=by have:=aau hc;injection this
   rw[aaq hc] at B
   refine⟨_,rfl,_,rfl,_,_,rfl,rfl,b,_,_,_,rfl,rfl,gF.of (s2 b _ hb),ic (j:=j+1) (by omega) (Cy (by omega)),_,_,rfl,rfl,_,rfl,_,rfl,p,_,_,j,rfl,rfl,h2,B5 rfl (by rw[zW];omega),?_⟩
   refine⟨_,rfl,s2.upd F_,?_⟩
   rw[b_]
   dsimp only
   have e:((K01.wy old new (i+1) (j+1):Nat):Int)+1=((K01.wy old new i j:Nat):Int):=by omega
   rw[e,hj,Ep hm]
  ·have hc:¬new[j]=t:=fun z=>hc (by rw[z];exact Vy rfl)
   rw[aal hc] at B
   refine⟨_,rfl,_,rfl,b,_,_,_,rfl,rfl,gF.of (s2 b _ hb),ic rfl (Cy (by omega)),_,rfl,_,rfl,_,_,rfl,rfl,p,_,_,_,rfl,rfl,gF.of h2,ic (j:=j+1) (by omega) (GK (by omega) (by omega)),_,_,rfl,_,rfl,_,rfl,p,_,_,j,rfl,rfl,h2,B5 rfl (by rw[zW];omega),?_⟩
   refine⟨_,rfl,s2.upd F_,?_⟩
   rw[b_]
   have e:(if((K01.wy old new i (j+1):Nat):Int)>((K01.wy old new (i+1) j:Nat):Int) then((K01.wy old new i (j+1):Nat):Int) else((K01.wy old new (i+1) j:Nat):Int))=((K01.wy old new i j:Nat):Int):=by split<;>omega
   rw[e,hj,Ep hm]
 ·rintro σ H2 ⟨v,rfl,s2,h2⟩
  refine⟨_,rfl,k p H2 s2 F_ ?_⟩
  rw[h2,J2]
def M6(H:Hp)(old new:List Str)(rows:List V)(SV:Nat):Prop:=rows.length=old.length+1∧∀i,i≤old.length→∃a,rows[i]?=some (.ref a)∧(SV≤i→H a=some (.lst (tab old new i)))
noncomputable abbrev nMP:List Str:=["old","new","table","first","place"]
theorem L7:gw ["old","new","table","first","place"] ["old","new"] (gb T4):=⟨rfl,rfl,rfl,by decide+kernel,rfl,by decide+kernel,by decide+kernel⟩
def Rz:Sp:=fun vs H Q _=>∃(old new:List Str)(o n:Addr),vs=[.ref o,.ref n]∧H o=some (.lst (gi old))∧H n=some (.lst (gi new))∧old.length≤1000∧new.length≤1000∧
 ∀p H' rows,gj H H'→H p=none→H' p=some (.lst rows)→M6 H' old new rows 0→Q (.ref p) H'
theorem J3(new:List Str)(n:Nat)(h:n=new.length+1):(List.replicate n [V.int 0]).flatten=tab [] new 0:=by
 rw[BD [] new 0 n h]
 unfold part tab
 refine abG fun j _=>?_
 rw[show K01.wy ([]:List Str) new 0 j=0 from K01.yS (.inl (by simp))]
 split<;>rfl
theorem L8(old new:List Str)(n:Nat)(h:n=new.length+1):(List.replicate n [V.int 0]).flatten=tab old new old.length:=by
 rw[J3 new n h]
 unfold tab
 refine abG fun j _=>?_
 rw[show K01.wy ([]:List Str) new 0 j=0 from K01.yS (.inl (by simp)),K01.yS (.inl (Vx _))]
theorem RA{f fC:Addr}{fd Qv:FuncData}(F:xw K "most_pairs" "most_pairs" T4 f fd)(T:Txt mg)(C:xw K "counts_with" "counts_with" T3 fC Qv)(bC:Binds K Qv ["text","new","below"] [])(mC:mg "counts_with"=some (.ref fC)) :
  ij P w K mg base l5 2 f fd ["old","new"] Rz:=by
 have GC:ij P w K mg base l5 1 fC Qv ["text","new","below"] Rx:=Ry C T
 refine F.p_ L7 fun jm A outer s H vs Q E hr h=>?_
 obtain⟨old,new,o,n,rfl,ho,hn,VU,vQ,k⟩:=h
 refine⟨_,de (Bn (j:=2) nMP (gb T4).names [4] L7.nd rfl rfl rfl (j7 rfl T.range (a_ (gz iI (gA gp (by rfl) T.len aao (a_ (pv 0) d_)) gg) d_)) rfl (by decide+kernel)
   (fun _ _ _ _=>iz (i:=4) L7.nd rfl (Or.inl rfl)) (fun _ _ _ _=>mK) (fun _ _ _ _=>⟨_,gz Fi (iU (a_ gg d_)) (gz iI (gA gp (by rfl) T.len aao (a_ (pv 1) d_)) gg),by(try simp only [kD]);rfl⟩))
  (de (iu aap rfl (wj rfl T.range (a_ (gz y8 (gA gp (by rfl) T.len aao (a_ (pv 0) d_)) gg) (a_ (xq rm gg) (a_ (xq rm gg) d_)))) (iz (i:=3) L7.nd rfl (Or.inl rfl))
   (f_ (BV (uN GC hr rfl mC C.kp bC .nil oy (a_ (jW kC (pv 0) (pv 3) (fun _ _=>rfl)) (a_ (pv 1) (a_ (jW kC (pv 2) (gz iI (pv 3) gg) (fun _ _=>rfl)) d_)))) (BU (pv 2) (pv 3) set_list))))
  (f_ (gR (pv 2)))),?_⟩
 refine DO ?_;intro _ _
 refine⟨_,rfl,o,_,rfl,.inl (gF.of ho),_,_,rfl,rfl,_,rfl,by simp<;>omega,by simp<;>omega,?_⟩
 have en:(((gi old).length:Int)+1).toNat=old.length+1:=by simp<;>omega
 rw[en]
 let Jv:=fun(m:Nat) (ys:List V) (σ:St) (H2:Hp)=>∃v,σ=[rr o,rr n,none,none,v]∧gj H H2∧ys.length=m∧∀i,i<m→∃a,ys[i]?=some (.ref a)∧H a=none∧H2 a=some (.lst (tab old new old.length))
 refine rB (by have:sizeLine=2 ^ 24:=rfl;omega) Jv
  ⟨none,rfl,gj.refl H,rfl,fun i hi=>absurd hi (Nat.not_lt_zero _)⟩ (by rintro _ _ _ _ ⟨_,_,_,e,_⟩;exact acj e) ?_ ?_
 ·rintro m ys σ H2 hm ⟨v,rfl,s2,hy,E3⟩
  refine⟨jI,fun l Nk=>?_⟩
  have s3:gj H (upd H2 l (.lst [V.int 0])):=s2.new Nk
  refine⟨_,rfl,n,_,rfl,.inl (gF.of (s3 n _ hn)),_,_,rfl,rfl,l,_,_,rfl,rfl,b_,by simp<;>omega,by simp<;>omega,by simp;have:sizeLine=2 ^ 24:=rfl;omega,fun p hp=>?_⟩
  rw[L8 old new _ (show(((gi new).length:Int)+1).toNat=new.length+1 by simp<;>omega)]
  have oh:p≠l:=fun z=>by rw[z,b_] at hp;cases hp
  have AG:H2 p=none:=by rw[e_ oh] at hp;exact hp
  refine⟨_,rfl,s3.new hp,by rw[Vq,hy];rfl,fun i hi=>?_⟩
  by_cases e:i<m
  ·obtain⟨a,e1,e2,e3⟩:=E3 i e
   refine⟨a,by rw[abP (by omega)];exact e1,e2,?_⟩
   rw[e_ (gh e3 AG),e_ (gh e3 Nk)]
   exact e3
  ·have:i=m:=by omega
   subst this
   exact⟨p,by rw[aba (by omega),hy];simp,s2.free AG,b_⟩
 ·rintro ys σ H2 ⟨v,rfl,s2,hy,E3⟩ p hp
  have s3:gj H (upd H2 p (.lst ys)):=s2.new hp
  have F_:H p=none:=s2.free hp
  refine⟨_,rfl,o,_,rfl,.inl (gF.of (s3 o _ ho)),_,_,rfl,rfl,_,rfl,_,rfl,_,_,rfl,⟨by simp<;>omega,by simp<;>omega,by omega,by omega⟩,?_⟩
  have en:((((gi old).length:Int)-1) - -1).toNat=old.length:=by simp<;>omega
  rw[en]
  let Jv:=fun(m:Nat) (σ:St) (H3:Hp)=>∃v w rows,σ=[rr o,rr n,rr p,v,w]∧gj H H3∧H3 p=some (.lst rows)∧M6 H3 old new rows (old.length-m)∧∀i a,i≤old.length→rows[i]?=some (.ref a)→a≠p
  refine ud Jv
   ⟨_,_,ys,rfl,s3,b_,⟨hy,fun i hi=>?_⟩,fun i a hi ha=>?_⟩ ?_ ?_
  ·obtain⟨a,e1,e2,e3⟩:=E3 i (by omega)
   refine⟨a,e1,fun z=>?_⟩
   have:i=old.length:=by omega
   subst this
   rw[e_ (gh e3 hp)]
   exact e3
  ·obtain⟨a',e1,e2,e3⟩:=E3 i (by omega)
   rw[ha] at e1
   cases e1
   exact gh e3 hp
  ·rintro m σ H3 hm ⟨v,w',rows,rfl,s4,h4,tb,nb⟩
   obtain⟨i,hi⟩:∃i,i=old.length-1-m:=⟨_,rfl⟩
   have Nj:i<old.length:=by omega
   rw[show((gi old).length:Int)-1+(m:Int) * -1=(i:Int) by simp<;>omega]
   have Uh:old[i]?=some old[i]:=Su Nj
   obtain⟨b,e1,e2⟩:=tb.2 (i+1) (by omega)
   refine⟨_,rfl,_,rfl,o,_,_,_,rfl,rfl,gF.of (s4 o _ ho),ic rfl (oA Uh),_,rfl,_,rfl,_,rfl,_,_,rfl,rfl,p,_,_,_,rfl,rfl,gF.of h4,ic (j:=i+1) (by omega) e1,?_⟩
   refine⟨old,new,i,_,n,b,rfl,Uh,s4 n _ hn,e2 (by omega),vQ,fun q H5 s5 Zm h5=>?_⟩
   have Zn:q≠p:=fun z=>by rw[z,h4] at Zm;cases Zm
   refine⟨_,rfl,_,rfl,p,rows,_,i,rfl,rfl,s5 p _ h4,B5 rfl (by rw[tb.1];omega),?_⟩
   refine⟨_,_,_,rfl,(s4.trans s5).upd F_,b_,⟨by rw[ack];exact tb.1,fun i' A5=>?_⟩,fun i' a A5 ha=>?_⟩
   ·by_cases e:i'=i
    ·subst e
     refine⟨q,by rw[abc (by rw[tb.1];omega)],fun _=>?_⟩
     rw[e_ Zn];exact h5
    ·obtain⟨a,a1,a2⟩:=tb.2 i' A5
     refine⟨a,by rw[abn (fun z=>e z.symm)];exact a1,fun z=>?_⟩
     rw[e_ (nb i' a A5 a1)]
     exact s5 a _ (a2 (by omega))
   ·by_cases e:i'=i
    ·subst e
     rw[abc (by rw[tb.1];omega)] at ha
     cases ha
     exact Zn
    ·rw[abn (fun z=>e z.symm)] at ha
     exact nb i' a A5 ha
  ·rintro σ H3 ⟨v,w',rows,rfl,s4,h4,tb,nb⟩
   refine⟨_,rfl,k p H3 rows s4 F_ h4 ?_⟩
   rw[Nat.sub_self] at tb
   exact tb
end
end Kp
namespace K01
theorem Cz{α:Type}[DecidableEq α]{a:α}{new:List α}{j k:Nat}(hj:j≤k)(hk:new[k]?=some a)(hm:∀l,j≤l→l<k→new[l]?≠some a):i9 a new j=some k:=by
 cases e:i9 a new j with
 | none=>exact absurd hk (nM e k hj)
 | some k'=>
  obtain⟨h1,h2,h3⟩:=kr e
  rcases Nat.lt_trichotomy k k' with h|h|h
  ·exact absurd hk (h3 k hj h)
  ·rw[h]
  ·exact absurd h2 (hm k' h1 h)
theorem CA{α:Type}[DecidableEq α]{a:α}{new:List α}{j:Nat}(hm:∀l,j≤l→l<new.length→new[l]?≠some a):i9 a new j=none:=by
 cases e:i9 a new j with
 | none=>rfl
 | some k'=>
  obtain⟨h1,h2,h3⟩:=kr e
  exact absurd h2 (hm k' h1 (List.getElem?_eq_some_iff.mp h2).1)
end K01
namespace Kp
open PySem L2
section
variable{P:Program}{w:World}{K:Qqy}{mg:Qqx}{base:Heap}
noncomputable def VD:Option Nat→V
 | none=>.jl
 | some k=>.int k
theorem RB:gw ["texts","text","start","place"] ["texts","text","start"] (gb VC):=⟨rfl,rfl,rfl,by decide+kernel,rfl,by decide+kernel,by decide+kernel⟩
def RC:Sp:=fun vs H Q _=>∃(new:List Str)(t:Str)(n:Addr)(j:Nat),vs=[.ref n,.str t,.int j]∧H n=some (.lst (gi new))∧new.length≤1000∧j≤1000∧Q (VD (K01.i9 t new j)) H
theorem RD{f:Addr}{fd:FuncData}(F:xw K "place_from" "place_from" VC f fd)(T:Txt mg):ij P w K mg base l5 1 f fd ["texts","text","start"] RC:=by
 refine F.p_ RB fun jm A outer s H vs Q E hr h=>?_
 obtain⟨new,t,n,j,rfl,hn,hl,hj,k⟩:=h
 refine⟨_,de (iu aap rfl (vX rfl T.range (a_ (pv 2) (a_ (gA gp (by rfl) T.len aao (a_ (pv 0) d_)) d_))) (iz (i:=3) RB.nd rfl (Or.inl rfl))
   (f_ (ir (ib lX (jW kC (pv 0) (pv 3) (fun _ _=>rfl)) (pv 1) (iA _)) (f_ (gR (pv 3))) g_)))
  (f_ (gR t_)),?_⟩
 refine K5 ?_;intro _
 refine⟨_,rfl,_,rfl,n,_,rfl,.inl (gF.of hn),_,_,rfl,⟨by omega,by omega,by simp<;>omega,by simp<;>omega⟩,?_⟩
 let Jv:=fun(m:Nat) (σ:St) (H2:Hp)=>∃v,σ=[rr n,rs t,ri j,v]∧H2=H∧∀l,j≤l→l<j+m→new[l]?≠some t
 refine k8 Jv ⟨none,rfl,rfl,fun l h1 h2=>by omega⟩ ?_ ?_
 ·rintro m σ H2 hm ⟨v,rfl,rfl,h2⟩
  have hm:j+m<new.length:=by simp at hm;omega
  rw[show(j:Int)+(m:Int)=((j+m:Nat):Int) by omega]
  have PN:new[j+m]?=some new[j+m]:=Su hm
  refine⟨_,rfl,_,rfl,n,_,_,_,rfl,rfl,gF.of hn,ic rfl (oA PN),_,rfl,rfl,_,rfl,?_⟩
  refine kq (fun hc=>?_) (fun hc=>?_)
  ·have hc:new[j+m]=t:=by have:=aau hc;injection this
   rw[hc] at PN
   rw[K01.Cz (Nat.le_add_right j m) PN h2] at k
   exact⟨_,rfl,k⟩
  ·have hc:¬new[j+m]=t:=fun z=>hc (by rw[z];exact Vy rfl)
   refine⟨_,rfl,rfl,fun l h3 h4=>?_⟩
   by_cases e:l=j+m
   ·subst e
    rw[PN]
    intro z
    exact hc (aaz z)
   ·exact h2 l h3 (by omega)
 ·rintro σ H2 ⟨v,rfl,rfl,h2⟩
  rw[K01.CA (j:=j) fun l h3 h4=>h2 l h3 (by simp<;>omega)] at k
  exact k
def lS(H:Hp)(q:Nat×Nat)(v:V):Prop:=∃a,v=.ref a∧H a=some (.tup [.int q.1,.int q.2])
abbrev i0(H:Hp)(l:List (Nat×Nat))(vs:List V):Prop:=Paired (lS H) l vs
theorem i0.keep{H H':Hp}{l:List (Nat×Nat)}{vs:List V}(h:i0 H l vs)(k:∀a xs,H a=some (.tup xs)→H' a=some (.tup xs)):i0 H' l vs:=
 Paired.kJ h fun q v ⟨a,e,h⟩=>⟨a,e,k a _ h⟩
theorem OI:gw ["old","new","table","pairs","start","first","second"] ["old","new"] (gb M5):=⟨rfl,rfl,rfl,by decide+kernel,rfl,by decide+kernel,by decide+kernel⟩
def YO:Sp:=fun vs H Q _=>∃(old new:List Str)(o n:Addr),vs=[.ref o,.ref n]∧H o=some (.lst (gi old))∧H n=some (.lst (gi new))∧old.length≤1000∧new.length≤1000∧
 ∀p H' ps,gj H H'→H p=none→H' p=some (.lst ps)→i0 H' (K01.kept old new) ps→Q (.ref p) H'
theorem L9{f fM fC fP:Addr}{fd WM Qv WN:FuncData}(F:xw K "kept" "kept" M5 f fd)(T:Txt mg)(C:xw K "counts_with" "counts_with" T3 fC Qv)(bC:Binds K Qv ["text","new","below"] [])(mC:mg "counts_with"=some (.ref fC))
  (M:xw K "most_pairs" "most_pairs" T4 fM WM) (bM:Binds K WM ["old","new"] []) (mM:mg "most_pairs"=some (.ref fM)) (Pf:xw K "place_from" "place_from" VC fP WN) (bP:Binds K WN ["texts","text","start"] []) (mP:mg "place_from"=some (.ref fP)) :
  ij P w K mg base l5 3 f fd ["old","new"] YO:=by
 have GM:ij P w K mg base l5 2 fM WM ["old","new"] Rz:=RA M T C bC mC
 have GP:ij P w K mg base l5 2 fP WN ["texts","text","start"] RC:=(RD Pf T).mono (by decide)
 refine F.p_ OI fun jm A outer s H vs Q E hr h=>?_
 obtain⟨old,new,o,n,rfl,ho,hn,VU,vQ,k⟩:=h
 refine⟨_,de (ly (i:=2) OI.nd rfl (Or.inl rfl) (uN GM hr rfl mM M.kp bM .nil oy (a_ (pv 0) (a_ (pv 1) d_))))
  (de (ly (i:=3) OI.nd rfl (Or.inl rfl) (iU d_))
  (de (ly (i:=4) OI.nd rfl (Or.inl rfl) gg)
  (de (iu aap rfl (j7 rfl T.range (a_ (gA gp (by rfl) T.len aao (a_ (pv 0) d_)) d_)) (iz (i:=5) OI.nd rfl (Or.inl rfl))
   (de (ly (i:=6) OI.nd rfl (Or.inl rfl) (uN GP hr rfl mP Pf.kp bP .nil oy (a_ (pv 1) (a_ (jW kC (pv 0) (pv 5) (fun _ _=>rfl)) (a_ (pv 4) d_)))))
   (f_ (ir (pw_and (jv (sR (pv 6))) (pw_and1 (ib lX
     (gz iI (jW kC (jW kC (pv 2) (gz iI (pv 5) gg) (fun _ _=>rfl)) (gz iI (pv 6) gg) (fun _ _=>rfl)) gg)
     (jW kC (jW kC (pv 2) (pv 5) (fun _ _=>rfl)) (pv 4) (fun _ _=>rfl)) (iA _)))).pt
    (de (gM (ow aaF aaQ aaR j8 (pv 3) (a_ (BX (a_ (pv 5) (a_ (pv 6) d_))) d_)))
    (f_ (ly (i:=4) OI.nd rfl (Or.inl rfl) (gz iI (pv 6) gg))))
    g_))))
  (f_ (gR (pv 3)))))),?_⟩
 refine Qc ?_;intro _ _ _ _
 refine⟨_,rfl,_,rfl,old,new,o,n,rfl,ho,hn,VU,vQ,fun tb H1 rows s1 WA h1 SW=>?_⟩
 refine⟨jI,fun pr Uu=>?_⟩
 have WO:H pr=none:=s1.free Uu
 refine⟨_,rfl,o,_,rfl,.inl (gF.of (s1.new Uu o _ ho)),_,rfl,by simp<;>omega,by simp<;>omega,?_⟩
 have en:((gi old).length:Int).toNat=old.length:=by simp
 rw[en]
 refine k8 (fun m σ H2=>∃(j:Nat)(acc:List (Nat×Nat))(ps:List V)(v w:Option V),σ=[rr o,rr n,rr tb,rr pr,ri j,v,w]∧gj H1 H2∧H2 pr=some (.lst ps)∧i0 H2 acc ps∧acc.length≤m∧j≤new.length∧
   acc++K01.pE new m (old.drop m) j=K01.kept old new) ⟨0,[],[],none,none,rfl,(gj.refl H1).new Uu,b_,.nil,Vx _,aaI _,rfl⟩ ?_ ?_
 ·rintro m σ H2 hm ⟨j,acc,ps,v,w',rfl,s2,h2,pa,tE,hj,hk⟩
  rw[show(0:Int)+(m:Int)=(m:Int) by omega]
  have WQ:old[m]?=some old[m]:=Su hm
  have hd:old.drop m=old[m]::old.drop (m+1):=aaP hm
  rw[hd,K01.pE] at hk
  refine⟨_,rfl,_,rfl,_,rfl,o,_,_,_,rfl,rfl,gF.of (s2 o _ (s1 o _ ho)),ic rfl (oA WQ),_,rfl,new,_,n,j,rfl,s2 n _ (s1 n _ hn),vQ,by omega,?_⟩
  cases e:K01.i9 old[m] new j with
  | none=>
   rw[e] at hk
   refine⟨_,rfl,_,rfl,Jl (by rfl) (jz ?_)⟩
   exact⟨j,acc,ps,_,_,rfl,s2,h2,pa,by omega,hj,hk⟩
  | some q=>
   rw[e] at hk
   simp only at hk
   obtain⟨hq1,hq2,hq3⟩:=K01.kr e
   have Nv:q<new.length:=(List.getElem?_eq_some_iff.mp hq2).1
   obtain⟨a1,ea1,WR⟩:=SW.2 (m+1) (by omega)
   obtain⟨a0,ea0,WS⟩:=SW.2 m (by omega)
   have WR:=s2 a1 _ (WR (aaI _))
   have WS:=s2 a0 _ (WS (aaI _))
   have SX:H2 tb=some (.lst rows):=s2 tb _ h1
   refine⟨_,rfl,_,rfl,Jm (by rfl) ?_⟩
   refine⟨_,rfl,_,rfl,_,_,rfl,rfl,tb,_,_,_,rfl,rfl,gF.of SX,ic (j:=m+1) (by omega) ea1,_,rfl,_,_,rfl,rfl,a1,_,_,_,rfl,rfl,gF.of WR,ic (j:=q+1) (by omega) (Cy (by omega)),_,_,rfl,rfl,
    _,rfl,_,rfl,tb,_,_,_,rfl,rfl,gF.of SX,ic rfl ea0,_,rfl,a0,_,_,_,rfl,rfl,gF.of WS,ic rfl (Cy (by omega)),rfl,_,rfl,?_⟩
   refine kq (fun hc=>?_) (fun hc=>?_)
   ·have hc:((K01.wy old new (m+1) (q+1):Nat):Int)+1=((K01.wy old new m j:Nat):Int):=by have:=aau hc;injection this
    have BL:K01.lcs (old.drop (m+1)) (new.drop (q+1))+1=K01.lcs (old[m]::old.drop (m+1)) (new.drop j):=by rw[←hd];unfold K01.wy at hc;omega
    rw[aaq BL] at hk
    refine⟨_,rfl,.inl ⟨rfl,_,gF.of h2⟩,_,rfl,_,rfl,jI,fun t ht=>?_⟩
    have oh:=pa.length
    have Zo:pr≠t:=gh h2 ht
    refine⟨pr,ps,_,rfl,rfl,by rw[e_ Zo];exact h2,by have:sizeLine=2 ^ 24:=rfl;omega,?_⟩
    refine⟨_,rfl,_,_,rfl,rfl,q+1,acc++[(m,q)],ps++[.ref t],_,_,rfl,(s2.new ht).upd Uu,b_,?_,by rw[Vq];simp;omega,by omega,by rw[aaK];exact hk⟩
    refine Paired.snoc (pa.keep fun a xs ha=>?_) ⟨t,rfl,?_⟩
    ·rw[e_ (i4 ha h2 (by intro z;cases z)),e_ (gh ha ht)];exact ha
    ·rw[e_ (abF Zo),b_]
     rfl
   ·have hc:¬((K01.wy old new (m+1) (q+1):Nat):Int)+1=((K01.wy old new m j:Nat):Int):=fun z=>hc (Vy (aa2 V.int z))
    have BL:¬K01.lcs (old.drop (m+1)) (new.drop (q+1))+1=K01.lcs (old[m]::old.drop (m+1)) (new.drop j):=by rw[←hd];unfold K01.wy at hc;omega
    rw[aal BL] at hk
    exact⟨j,acc,ps,_,_,rfl,s2,h2,pa,by omega,hj,hk⟩
 ·rintro σ H2 ⟨j,acc,ps,v,w',rfl,s2,h2,pa,tE,hj,hk⟩
  rw[acg,K01.pE,aaJ] at hk
  rw[hk] at pa
  exact⟨_,rfl,k pr H2 ps (s1.trans s2) WO h2 pa⟩
end
end Kp
namespace PK
open PySem L2 PM
open Kp (lS i0)
theorem OJ(a b c d:V):jB "lower_name" d (jB "upper_name" c (jB "text" b (jB "name" a [])))=L3 a b c d:=by kernel_rfl
theorem OK(a b c d e:V):jB "other" e (jB "cuts" d (jB "puts" c (jB "file" b (jB "name" a []))))=L4 a b c d e:=by kernel_rfl
noncomputable def Qg(a l:Addr):List (Str×V):=[("ahead",.ref a),("lines",.ref l)]
theorem OL(a l:Addr):jB "lines" (.ref l) (jB "ahead" (.ref a) [])=Qg a l:=by kernel_rfl
theorem lj(a l:Addr):(Qg a l).lookup ("lines":Str)=some (V.ref l):=by kernel_rfl
theorem FF(a l:Addr):(Qg a l).lookup ("ahead":Str)=some (V.ref a):=by kernel_rfl
theorem OM(a l:Addr):(Qg a l).lookup ("is_ahead":Str)=none:=by kernel_rfl
theorem J4(a l:Addr):(Qg a l).lookup ("quarrelling":Str)=none:=by kernel_rfl
theorem HN(a:Addr):(jB ("ahead":Str) (.ref a) []).lookup ("ahead":Str)=some (V.ref a):=by kernel_rfl
def FG(A:Ad)(H:Hp)(p:Addr)(al row:List Ln):Prop:=∃dx ah l,H p=some (.ins A.h_ dx (Qg ah l))∧Cv H ah al∧qB A H l row
theorem FG.same{A:Ad}{H H':Hp}{p:Addr}{al row:List Ln}(x:FG A H p al row)(s:gj H H'):FG A H' p al row:=by
 obtain⟨dx,ah,l,h1,h2,h3⟩:=x
 exact⟨dx,ah,l,s _ _ h1,h2.same s,h3.same s⟩
section
variable{P:Program}{w:World}{K:Qqy}{mg:Qqx}{base:Heap}{A:Ad}
def RE(A:Ad):Sp:=fun vs H Q _=>∃(p dx:Addr)(a b c d:V),vs=[.ref p,a,b,c,d]∧H p=some (.ins A.gJ dx [])∧∀H',(∀x,x≠p→H' x=H x)→H' p=some (.ins A.gJ dx (L3 a b c d))→Q .jl H'
theorem CB(T:Txt mg)(O:Ok K mg A):ij P w K mg base l5 1 A.mW A.qR ["self","name","text","upper_name","lower_name"] (RE A):=by
 refine O.tT.f.p_ wB fun jm A0 outer s H vs Q E hr h=>?_
 obtain⟨p,dx,a,b,c,d,rfl,hp,k⟩:=h
 refine⟨_,(de (lA (pv 0) (pv 1) rfl)
  (de (lA (pv 0) (pv 2) rfl)
  (de (lA (pv 0) (pv 3) rfl)
  (f_ (lA (pv 0) (pv 4) rfl))))),?_⟩
 refine M0 ?_;intro _ _ _
 refine⟨_,rfl,_,rfl,p,A.gJ,dx,_,rfl,hp,O.iM,O.gH,(by show 0<1000;decide),?_⟩
 refine⟨_,rfl,_,rfl,p,A.gJ,dx,_,rfl,b_,O.iM,O.jG,(by show 1<1000;decide),?_⟩
 refine⟨_,rfl,_,rfl,p,A.gJ,dx,_,rfl,b_,O.iM,O.iD,(by show 2<1000;decide),?_⟩
 refine⟨_,rfl,_,rfl,p,A.gJ,dx,_,rfl,b_,O.iM,O.iE,(by show 3<1000;decide),?_⟩
 exact k _ (fun x hx=>by rw[e_ hx,e_ hx,e_ hx,e_ hx]) (Eq.trans b_ (aa2 (fun l=>some (HO.ins A.gJ dx l)) (OJ a b c d)))
def RF(A:Ad):Sp:=fun vs H Q _=>∃(p dx:Addr)(a b c d e:V),vs=[.ref p,a,b,c,d,e]∧H p=some (.ins A.gP dx [])∧∀H',(∀x,x≠p→H' x=H x)→H' p=some (.ins A.gP dx (L4 a b c d e))→Q .jl H'
theorem o9(T:Txt mg)(O:Ok K mg A):ij P w K mg base l5 1 A.mj A.pK ["self","name","file","puts","cuts","other"] (RF A):=by
 refine O.lQ.f.p_ u0 fun jm A0 outer s H vs Q E hr h=>?_
 obtain⟨p,dx,a,b,c,d,e,rfl,hp,k⟩:=h
 refine⟨_,(de (lA (pv 0) (pv 1) rfl)
  (de (lA (pv 0) (pv 2) rfl)
  (de (lA (pv 0) (pv 3) rfl)
  (de (lA (pv 0) (pv 4) rfl)
  (f_ (lA (pv 0) (pv 5) rfl)))))),?_⟩
 refine Qc ?_;intro _ _ _ _
 refine⟨_,rfl,_,rfl,p,A.gP,dx,_,rfl,hp,O.jq,O.iW,(by show 0<1000;decide),?_⟩
 refine⟨_,rfl,_,rfl,p,A.gP,dx,_,rfl,b_,O.jq,O.j9,(by show 1<1000;decide),?_⟩
 refine⟨_,rfl,_,rfl,p,A.gP,dx,_,rfl,b_,O.jq,O.jK,(by show 2<1000;decide),?_⟩
 refine⟨_,rfl,_,rfl,p,A.gP,dx,_,rfl,b_,O.jq,O.jL,(by show 3<1000;decide),?_⟩
 refine⟨_,rfl,_,rfl,p,A.gP,dx,_,rfl,b_,O.jq,O.iY,(by show 4<1000;decide),?_⟩
 exact k _ (fun x hx=>by rw[e_ hx,e_ hx,e_ hx,e_ hx,e_ hx]) (Eq.trans b_ (aa2 (fun l=>some (HO.ins A.gP dx l)) (OK a b c d e)))
def L_(A:Ad):Sp:=fun vs H Q _=>∃(p dx a:Addr)(ps:List Pt)(f:Str),vs=[.ref p,.ref a,.str f]∧H p=some (.ins A.h_ dx [])∧yH A H a ps∧Small ps∧
 ((gO ps f).map (·.nm)).Nodup∧qi (gO ps f)∧JG (gO ps f)∧
 ∀(H':Hp),(∀b o,H b=some o→b≠p→H' b=some o)→FG A H' p (gO ps f) (rowOf (Ah (gO ps f)) (nN ps f))→Q .jl H'
theorem lx.off{H H':Hp}{p C dx:Addr}{fs:List (Str×V)}{v:V}{n:Nm}(x:lx H v n)(hp:H p=some (.ins C dx fs))(s:∀b o,H b=some o→b≠p→H' b=some o):lx H' v n:=by
 obtain⟨t,e,h⟩:=x
 exact⟨t,e,s _ _ h (i4 h hp (fun z=>by cases z))⟩
theorem FA.off{H H':Hp}{p C dx:Addr}{fs:List (Str×V)}{v:V}{n:Option Nm}(x:FA H v n)(hp:H p=some (.ins C dx fs))(s:∀b o,H b=some o→b≠p→H' b=some o):FA H' v n:=by
 cases n with
 | none=>exact x
 | some n=>exact lx.off x hp s
theorem mY.off{H H':Hp}{p C dx a:Addr}{fs:List (Str×V)}{l:Ln}(x:mY A H a l)(hp:H p=some (.ins C dx fs))(hf:fs.length<2)(s:∀b o,H b=some o→b≠p→H' b=some o):mY A H' a l:=by
 obtain⟨WT,vn,vu,vl,h,h1,h2,h3⟩:=x
 have:a≠p:=fun z=>by
  rw[z,hp] at h
  have e:=aaz h
  injection e with _ _ e
  rw[e] at hf
  exact absurd hf (by unfold L3;simp)
 exact⟨WT,vn,vu,vl,s _ _ h this,h1.off hp s,h2.off hp s,h3.off hp s⟩
theorem qB.off{H H':Hp}{p C dx a:Addr}{fs:List (Str×V)}{ls:List Ln}(x:qB A H a ls)(hp:H p=some (.ins C dx fs))(hf:fs.length<2)(s:∀b o,H b=some o→b≠p→H' b=some o):qB A H' a ls:=by
 obtain⟨as,h,q⟩:=x
 exact⟨as,s _ _ h (i4 h hp (fun z=>by cases z)),Paired.kJ q fun _ _ z=>z.off hp hf s⟩
theorem zU.off{H H':Hp}{p C dx a:Addr}{fs:List (Str×V)}{ns:List Nm}(x:zU H a ns)(hp:H p=some (.ins C dx fs))(s:∀b o,H b=some o→b≠p→H' b=some o):zU H' a ns:=by
 obtain⟨as,h,q⟩:=x
 exact⟨as,s _ _ h (i4 h hp (fun z=>by cases z)),Paired.kJ q fun _ _ z=>z.off hp s⟩
theorem oa.off{H H':Hp}{p C dx a:Addr}{fs:List (Str×V)}{pt:Pt}(x:oa A H a pt)(hp:H p=some (.ins C dx fs))(hf:fs.length<2)(s:∀b o,H b=some o→b≠p→H' b=some o):oa A H' a pt:=by
 obtain⟨WT,vf,pu,cu,vo,h,h1,h2,h3,h4⟩:=x
 have:a≠p:=fun z=>by
  rw[z,hp] at h
  have e:=aaz h
  injection e with _ _ e
  rw[e] at hf
  exact absurd hf (by unfold L4;simp)
 exact⟨WT,vf,pu,cu,vo,s _ _ h this,h1,h2.off hp hf s,h3.off hp s,h4⟩
theorem yH.off{H H':Hp}{p C dx a:Addr}{fs:List (Str×V)}{ps:List Pt}(x:yH A H a ps)(hp:H p=some (.ins C dx fs))(hf:fs.length<2)(s:∀b o,H b=some o→b≠p→H' b=some o):yH A H' a ps:=by
 obtain⟨as,h,q⟩:=x
 exact⟨as,s _ _ h (i4 h hp (fun z=>by cases z)),Paired.kJ q fun _ _ z=>z.off hp hf s⟩
theorem Cv.off{H H':Hp}{p C dx a:Addr}{fs:List (Str×V)}{ls:List Ln}(x:Cv H a ls)(hp:H p=some (.ins C dx fs))(s:∀b o,H b=some o→b≠p→H' b=some o):Cv H' a ls:=by
 obtain⟨kvs,e1,e2⟩:=x
 refine⟨kvs,s _ _ e1 (i4 e1 hp (fun z=>by cases z)),fun n hn=>?_⟩
 obtain⟨b,dk,z1,z2,z3⟩:=e2 n hn
 exact⟨b,dk,z1,s _ _ z2 (i4 z2 hp (fun z=>by cases z)),z3⟩
theorem AW(T:Txt mg)(O:Ok K mg A):ij P w K mg base l5 3 A.ml A.pR ["self","patches","file"] (L_ A):=by
 have EL:=@Cw P w K mg base A T O
 have sL:=@vF P w K mg base A T O
 have xg:=@vG P w K mg base A T O
 have KQ:=@HM P w K mg base A T O
 refine O.si.f.p_ u5 fun jm A0 outer s H vs Q E hr h=>?_
 obtain⟨p,dx,a,ps,f,rfl,hp,ha,sm,nd,cl,tp,q⟩:=h
 have SY:uw (gO ps f).length:=aac (qC ps f) sm.iB
 have A7:=lF ps f
 refine⟨_,(de (lA (pv 0) (nE O.Bt EL hr (a_ (nE O.wO sL hr (a_ (pv 1) (a_ (pv 2) d_))) d_)) rfl)
   (f_ (lA (pv 0) (nE O.JQ KQ hr (a_ (nE O.se xg hr (a_ (pv 1) (a_ (pv 2) d_))) (a_ (gC (pv 0) rfl) d_))) rfl))),?_⟩
 refine K5 ?_;intro _
 refine⟨_,rfl,_,rfl,a,ps,f,rfl,ha,sm,fun l1 H1 s1 Uv S3=>?_⟩
 refine⟨l1,_,rfl,S3,SY,nd,cl,tp,fun ah H2 s2 Uw S4=>?_⟩
 have WU:gj H H2:=s1.trans s2
 have AG:=WU p _ hp
 refine⟨_,rfl,p,A.h_,dx,_,rfl,AG,O.j2,O.jw,(by show 0<1000;decide),?_⟩
 have s3:∀b o,H2 b=some o→b≠p→(upd H2 p (.ins A.h_ dx (jB "ahead" (.ref ah) []))) b=some o:=fun b o e n=>by rw[e_ n];exact e
 have ha3:=(ha.same WU).off AG (by decide) s3
 have S5:=S4.off AG s3
 refine⟨_,rfl,_,rfl,a,ps,f,rfl,ha3,sm,fun st H4 s4 Ux S6=>?_⟩
 have SH:H4 p=some (.ins A.h_ dx (jB "ahead" (.ref ah) [])):=s4 p _ b_
 refine⟨_,rfl,p,A.h_,dx,_,_,rfl,SH,O.j2,O.jw,HN ah,st,ah,nN ps f,gO ps f,rfl,S6,S5.same s4,aac A7.length_le SY,(A7.map _).nodup nd,fun l hl=>aaa (A7.subset hl),tp,fun l H5 s5 Uy S8=>?_⟩
 have PQ:=s5 p _ SH
 refine⟨_,rfl,p,A.h_,dx,_,rfl,PQ,O.j2,O.ip,(by show 1<1000;decide),?_⟩
 have s6:∀b o,H5 b=some o→b≠p→(upd H5 p (.ins A.h_ dx (jB "lines" (.ref l) (jB "ahead" (.ref ah) [])))) b=some o:=fun b o e n=>by rw[e_ n];exact e
 refine q _ (fun b o hb nb=>?_) ⟨dx,ah,l,Eq.trans b_ (aa2 (fun l=>some (HO.ins A.h_ dx l)) (OL ah l)),?_,?_⟩
 ·rw[e_ nb]
  refine s5 b o (s4 b o ?_)
  rw[e_ nb]
  exact WU b o hb
 ·exact((S5.same s4).same s5).off PQ s6
 ·exact S8.off PQ (by show 1<2;decide) s6
open Classical in
def VE(A:Ad):Sp:=fun vs H Q _=>∃(p:Addr)(al row:List Ln)(i j:Nat)(a b:Ln),vs=[.ref p,.int i,.int j]∧FG A H p al row∧row[i]?=some a∧row[j]?=some b∧b.nm∈al.map (·.nm)∧Q (.bl (decide (Ah al a.nm b.nm))) H
open Classical in
theorem Er(T:Txt mg)(O:Ok K mg A):ij P w K mg base l5 1 A.pS A.pT ["self","first","second"] (VE A):=by
 refine O.sj.f.p_ u9 fun jm A0 outer s H vs Q E hr h=>?_
 obtain⟨p,al,row,i,j,x,y,rfl,⟨dx,ah,l,h1,⟨kh,h2,h3⟩,⟨as,h4,h5⟩⟩,hi,hj,hy,q⟩:=h
 obtain⟨b,hb,dxb,vn,vu,vl,g1,⟨t,rfl,g2⟩,g3,g4⟩:=lh h5 hi
 obtain⟨c,hc,dxc,vn',vu',vl',k1,⟨t',rfl,k2⟩,k3,k4⟩:=lh h5 hj
 obtain⟨e,dk,z1,z2,z3⟩:=h3 y.nm hy
 have Uz:(as.map V.ref)[i]?=some (.ref b):=by rw[aae,hb];rfl
 have hcj:(as.map V.ref)[j]?=some (.ref c):=by rw[aae,hc];rfl
 refine⟨_,(f_ (gR (NM (oZ (by exact iV hr) (gC (rD (gC (pv 0) rfl) (pv 1)) rfl) (zt hr (gC (pv 0) rfl) (gC (rD (gC (pv 0) rfl) (pv 2)) rfl)))))),?_⟩
 refine⟨_,rfl,p,A.h_,dx,_,_,rfl,h1,O.j2,O.ip,lj ah l,_,rfl,l,_,_,_,rfl,rfl,gF.of h4,ic rfl Uz,b,A.gJ,dxb,_,_,rfl,g1,O.iM,O.gH,iZ,?_⟩
 refine⟨_,rfl,p,A.h_,dx,_,_,rfl,h1,O.j2,O.jw,FF ah l,_,rfl,p,A.h_,dx,_,_,rfl,h1,O.j2,O.ip,lj ah l,_,rfl,l,_,_,_,rfl,rfl,gF.of h4,ic rfl hcj,c,A.gJ,dxc,_,_,rfl,k1,O.iM,O.gH,iZ,ah,.ref e,rfl,?_,e,_,rfl,i7.t (k:=nk x.nm) z2 g2,?_⟩
 ·have:=i7.t (k:=nk y.nm) h2 k2
  rw[z1] at this
  exact this
 ·have e2:(iN dk (nk x.nm)).isSome=decide (Ah al x.nm y.nm):=by
   rw[abl,aa3];exact z3 x.nm
  rw[e2]
  exact q
def VF(A:Ad):Sp:=fun vs H Q _=>∃(p:Addr)(al row:List Ln),vs=[.ref p]∧FG A H p al row∧(∀l∈row,l.nm∈al.map (·.nm))∧uw row.length∧∀r H' vs,gj H H'→H r=none→H' r=some (.lst vs)→i0 H' (kQ (Ah al) row) vs→Q (.ref r) H'
open Classical in
noncomputable def wW(lt:Nm→Nm→Prop)(row:List Ln)(i m:Nat):List (Nat×Nat):=((List.range' (i+1) m).filter fun j=>decide (¬ltAt lt row i j)).map fun j=>(i,j)
noncomputable def Es(lt:Nm→Nm→Prop)(row:List Ln)(i:Nat):List (Nat×Nat):=(List.range i).flatMap fun i=>wW lt row i (row.length-(i+1))
theorem J6(lt:Nm→Nm→Prop)(row:List Ln):Es lt row row.length=kQ lt row:=rfl
theorem BE(lt:Nm→Nm→Prop)(row:List Ln)(i:Nat):Es lt row (i+1)=Es lt row i++wW lt row i (row.length-(i+1)):=by
 unfold Es
 rw[acb,abI,aaD,abB,aaJ]
theorem HP(lt:Nm→Nm→Prop)(row:List Ln)(i m:Nat)(h:¬ltAt lt row i (i+1+m)):wW lt row i (m+1)=wW lt row i m++[(i,i+1+m)]:=by
 unfold wW
 rw[show m+1=m+1 from rfl,←List.range'_append_1 (s:=i+1) (m:=m) (n:=1),aaH,aat]
 congr 1
 show List.map _ (List.filter _ [i+1+m])=_
 rw[YK (by simpa using h)]
 rfl
theorem FH(lt:Nm→Nm→Prop)(row:List Ln)(i m:Nat)(h:ltAt lt row i (i+1+m)):wW lt row i (m+1)=wW lt row i m:=by
 unfold wW
 rw[←List.range'_append_1 (s:=i+1) (m:=m) (n:=1),aaH,aat]
 show _++List.map _ (List.filter _ [i+1+m])=_
 rw[aag (by simpa using h)]
 simp
theorem Et(lt:Nm→Nm→Prop)(row:List Ln)(i m:Nat):(wW lt row i m).length≤m:=by
 unfold wW
 rw[So]
 exact aac (aaG _ _) (by rw[List.length_range'];exact Vx _)
theorem Eu(lt:Nm→Nm→Prop)(row:List Ln):∀i,(Es lt row i).length≤i*row.length
 | 0=>aaI _
 | i+1=>by
  rw[BE,Vq,Nat.succ_mul]
  have:=Eu lt row i
  have:=Et lt row i (row.length-(i+1))
  omega
open Classical in
theorem sE(T:Txt mg)(O:Ok K mg A):ij P w K mg base l5 2 A.nr A.nu ["self"] (VF A):=by
 have xh:=@Er P w K mg base A T O
 refine O.jF.f.p_ jD fun jm A0 outer s H vs Q E hr h=>?_
 obtain⟨p,al,row,rfl,S,WV,jI,q⟩:=h
 obtain⟨dx,ah,l,h1,h2,⟨as,h4,h5⟩⟩:=id S
 have hlen:=aan h5
 have yK:row.length≤4000:=jI
 have sz:sizeLine=16777216:=aay
 refine⟨_,(de (lu 1 jD (iU d_))
   (de (iu aap rfl (j7 rfl T.kX (a_ (gA gp (by rfl) T.jh aao (a_ (gC (pv 0) rfl) d_)) d_)) (rf 2 jD) (f_ (iu aap rfl (vX rfl T.kX (a_ (gz iI (pv 2) gg) (a_ (gA gp (by rfl) T.jh aao (a_ (gC (pv 0) rfl) d_)) d_))) (rf 3 jD) (f_ (ir (ke (kK (yx (pv 0) O.j2 O.sj xh hr (a_ (pv 2) (a_ (pv 3) d_))))) (f_ (gM (ow aaF aaQ aaR j8 (pv 1) (a_ (BX (a_ (pv 2) (a_ (pv 3) d_))) d_)))) g_)))))
   (f_ (gR (pv 1))))),?_⟩
 refine DO ?_;intro _ _
 refine⟨L2.jI,fun r tF=>?_⟩
 have s1:gj H (upd H r (.lst [])):=(gj.refl H).new tF
 have el:((as.map V.ref).length:Int)=(row.length:Int):=by rw[So,hlen]
 refine⟨_,rfl,p,A.h_,dx,_,_,rfl,s1 _ _ h1,O.j2,O.ip,lj ah l,l,_,rfl,.inl (gF.of (s1 _ _ h4)),_,rfl,by omega,by omega,?_⟩
 rw[el,abS]
 let Jv:=fun(i:Nat) (σ:St) (H2:Hp)=>∃(v2 v3:Option V)(vs:List V),σ=[rr p,rr r,v2,v3]∧gj H H2∧H2 r=some (.lst vs)∧i0 H2 (Es (Ah al) row i) vs
 refine k8 Jv ⟨none,none,[],rfl,s1,b_,.nil⟩ ?_ ?_
 ·rintro i σ H2 hi ⟨v2,v3,vs,rfl,s2,k1,k2⟩
  rw[show(0:Int)+(i:Int)=(i:Int) by omega]
  refine⟨_,rfl,_,_,rfl,rfl,_,rfl,p,A.h_,dx,_,_,rfl,s2 _ _ h1,O.j2,O.ip,lj ah l,l,_,rfl,.inl (gF.of (s2 _ _ h4)),_,_,rfl,⟨by omega,by omega,by omega,by omega⟩,?_⟩
  rw[el,show((row.length:Int)-((i:Int)+1)).toNat=row.length-(i+1) by omega]
  let Jv:=fun(m:Nat) (σ:St) (H3:Hp)=>∃(v3:Option V)(vs:List V),σ=[rr p,rr r,ri i,v3]∧gj H H3∧H3 r=some (.lst vs)∧i0 H3 (Es (Ah al) row i++wW (Ah al) row i m) vs
  refine k8 Jv ⟨v3,vs,rfl,s2,k1,by unfold wW;simpa using k2⟩ ?_ ?_
  ·rintro m σ H3 hm ⟨v3,vs,rfl,s3,k1,k2⟩
   rw[show(i:Int)+1+(m:Int)=((i+1+m:Nat):Int) by omega]
   have hj:i+1+m<row.length:=by omega
   have ei:row[i]?=some row[i]:=Su hi
   have ej:row[i+1+m]?=some row[i+1+m]:=Su hj
   have vQ:vs.length=(Es (Ah al) row i++wW (Ah al) row i m).length:=(aan k2).symm
   have S9:=Eu (Ah al) row i
   have PH:=Et (Ah al) row i m
   have hb3:i*row.length≤4000*4000:=Nat.mul_le_mul (by omega) yK
   rw[Vq] at vQ
   refine⟨_,rfl,p,dx,_,rfl,s3 _ _ h1,OM ah l,_,rfl,_,rfl,p,al,row,i,i+1+m,_,_,rfl,S.same s3,ei,ej,WV _ (List.getElem_mem hj),_,rfl,?_⟩
   have kB:ltAt (Ah al) row i (i+1+m)↔Ah al row[i].nm row[i+1+m].nm:=by
    constructor
    ·rintro⟨a,b,ha,hb,z⟩
     rw[ei] at ha;rw[ej] at hb;cases ha;cases hb
     exact z
    ·exact fun z=>⟨_,_,ei,ej,z⟩
   by_cases hc:Ah al row[i].nm row[i+1+m].nm
   ·rw[Vy hc]
    exact jz ⟨_,vs,rfl,s3,k1,by rw[FH _ _ _ _ (kB.mpr hc)];exact k2⟩
   ·rw[aab hc]
    refine l6 ?_
    refine⟨_,rfl,.inl ⟨rfl,_,gF.of k1⟩,_,rfl,_,rfl,L2.jI,fun t ht=>?_⟩
    have Zp:r≠t:=gh k1 ht
    refine⟨r,vs,_,rfl,rfl,by rw[e_ Zp];exact k1,by omega,?_⟩
    refine⟨_,vs++[.ref t],rfl,(s3.new ht).upd tF,b_,?_⟩
    rw[HP _ _ _ _ (fun z=>hc (kB.mp z)),←aaK]
    refine iy (Paired.kJ k2 fun a v ⟨b,e,hb⟩=>⟨b,e,?_⟩) ⟨t,rfl,?_⟩
    ·rw[e_ (i4 hb k1 (by intro z;cases z)),e_ (gh hb ht)];exact hb
    ·rw[e_ Zp.symm,b_]
  ·rintro σ H3 ⟨v3,vs,rfl,s3,k1,k2⟩
   exact⟨_,_,vs,rfl,s3,k1,by rw[BE];exact k2⟩
 ·rintro σ H2 ⟨v2,v3,vs,rfl,s2,k1,k2⟩
  exact⟨_,rfl,q r H2 vs s2 tF k1 (by rw[J6] at k2;exact k2)⟩
theorem FA.upd{H:Hp}{v:V}{n:Option Nm}{x:Addr}{o o':HO}(h:FA H v n)(hx:H x=some o')(ht:∀xs,o'≠.tup xs):FA (L2.upd H x o) v n:=by
 cases n with
 | none=>exact h
 | some n=>exact lx.upd h hx ht
theorem mY.upd{A:Ad}{H:Hp}{a:Addr}{l:Ln}{x:Addr}{o o':HO}(h:mY A H a l)(hx:H x=some o')(ht:∀xs,o'≠.tup xs)(hi:∀C dx fs,o'≠.ins C dx fs):mY A (L2.upd H x o) a l:=by
 obtain⟨dx,vn,vu,vl,h0,h1,h2,h3⟩:=h
 exact⟨dx,vn,vu,vl,by rw[e_ (i4 h0 hx (fun z=>hi _ _ _ z.symm))];exact h0,h1.upd hx ht,h2.upd hx ht,h3.upd hx ht⟩
theorem zX{A:Ad}{H:Hp}{as:List Addr}{ls:List Ln}(p:Paired (mY A H) as ls){i:Nat}{l:Ln}(h:ls[i]?=some l):∃b,(as.map V.ref)[i]?=some (.ref b)∧mY A H b l:=by
 obtain⟨b,hb,z⟩:=lh p h
 exact⟨b,by rw[aae,hb];rfl,z⟩
noncomputable def AX(p:Pt)(k:Nat):List (Option Nm):=p.j0.map some++(p.iB.take k).flatMap fun l=>[l.up,l.lo]
theorem named_eq(p:Pt):named p=(AX p p.iB.length).filterMap id:=by
 unfold named AX
 rw[aak,abO,List.filterMap_map]
 congr 1
 ·induction p.j0 with
  | nil=>rfl
  | cons x r ih=>rw[abu];show _=x::_;rw[←ih]
 ·induction p.iB with
  | nil=>rfl
  | cons x r ih=>
   rw[aaD,aaD,abO,ih]
   congr 1
   cases x.up<;>cases x.lo<;>rfl
theorem zY(p:Pt)(k:Nat):(AX p k).length≤p.j0.length+2*k:=by
 unfold AX
 rw[Vq,So]
 have:∀(ls:List Ln),(ls.flatMap fun l=>[l.up,l.lo]).length=2*ls.length:=fun ls=>by
  induction ls with
  | nil=>rfl
  | cons x r ih=>rw[aaD,Vq,ih];simp only [aaf,List.length_nil];omega
 rw[this,aaB]
 omega
def Ma(A:Ad):Sp:=fun vs H Q _=>∃(a:Addr)(p:Pt),vs=[.ref a]∧oa A H a p∧uw p.iB.length∧uw p.j0.length∧∀r H',gj H H'→H r=none→zU H' r (named p)→Q (.ref r) H'
theorem vJ(T:Txt mg)(O:Ok K mg A):ij P w K mg base l5 1 A.pL A.pM ["patch"] (Ma A):=by
 refine O.sd.f.p_ kj fun jm A0 outer s H vs Q E hr h=>?_
 obtain⟨a,p,rfl,⟨dx,vf,pu,cu,vo,g1,g2,⟨as,g3,Sv⟩,⟨cs,g4,Qq⟩,g5⟩,Ga,EM,q⟩:=h
 have hlen:=aan Sv
 have Nn:=aan Qq
 have Nw:p.iB.length≤4000:=Ga
 have KR:p.j0.length≤4000:=EM
 have sz:sizeLine=16777216:=aay
 refine⟨_,(de (lu 1 kj (sS uR (by rfl) T.rQ abe (a_ (gC (pv 0) rfl) d_)))
   (de (iu aap rfl (ie (gC (pv 0) rfl)) (rf 2 kj) (de (gM (ow aaF aaQ aaR j8 (pv 1) (a_ (gC (pv 2) rfl) d_)))
   (f_ (gM (ow aaF aaQ aaR j8 (pv 1) (a_ (gC (pv 2) rfl) d_))))))
   (f_ (gR (wg pH (gb kF).names [3] rfl (ie (pv 1)) rfl (by decide+kernel) (fun _ _ _ _=>(iz (i:=3) kj.nd rfl (Or.inl rfl))) (fun _ _ _ _=>⟨_,nI (jv (sR (pv 3))),by(try simp only [kD]);rfl⟩) (fun _ _ _ _=>AF (pv 3))))))),?_⟩
 refine DO ?_;intro _ _
 refine⟨_,rfl,a,A.gP,dx,_,_,rfl,g1,O.jq,O.jL,Ej,cu,cs,rfl,.inl (gF.of g4),fun l hl=>?_⟩
 have s1:gj H (upd H l (.lst cs)):=(gj.refl H).new hl
 dsimp only [k7];refine Ht ?_;intro _
 let Jv:=fun(i:Nat) (σ:St) (H2:Hp)=>∃(v:Option V)(xs:List V),σ=[rr a,rr l,v,none]∧gj H H2∧H2 l=some (.lst xs)∧Paired (FA H) xs (AX p i)
 refine⟨_,rfl,a,A.gP,dx,_,_,rfl,s1 _ _ g1,O.jq,O.jK,Ei,pu,rfl,⟨_,gF.of (s1 _ _ g3)⟩,iH (K:=K) (a:=pu) (xs:=as.map V.ref) Jv
  ⟨none,cs,rfl,s1,b_,?_⟩ (by rintro _ _ _ _ ⟨_,_,_,s2,_⟩;exact gF.of (s2 _ _ g3)) ?_ ?_⟩
 ·unfold AX
  rw[abx,abB,aaJ]
  clear Nn KR EM q g4 s1
  generalize p.j0=ms at Qq
  induction Qq with
  | nil=>exact .nil
  | cons f t ih=>exact .cons f ih
 ·rintro i v σ H2 hx ⟨v0,xs,rfl,s2,h1,h2⟩
  obtain⟨b,hb,rfl⟩:=j3 hx
  obtain⟨ln,vQ,Qw,vn,vu,vl,k1,k2,k3,k4⟩:=ix Sv hb
  have hi:i<p.iB.length:=(List.getElem?_eq_some_iff.mp vQ).1
  have hxl:xs.length≤p.j0.length+2*i:=by rw[aan h2];exact zY p i
  have e:AX p (i+1)=AX p i++[ln.up]++[ln.lo]:=by
   unfold AX
   rw[take_snoc vQ,abI,aaD,abB,aaK,aaK]
   rfl
  refine⟨_,rfl,.inl ⟨rfl,_,gF.of h1⟩,_,rfl,b,A.gJ,Qw,_,_,rfl,s2 _ _ k1,O.iM,O.iD,FC,l,_,_,rfl,rfl,h1,by omega,?_⟩
  have s3:gj H (upd H2 l (.lst (xs++[vu]))):=s2.upd hl
  refine⟨_,rfl,.inl ⟨rfl,_,gF.of b_⟩,_,rfl,b,A.gJ,Qw,_,_,rfl,s3 _ _ k1,O.iM,O.iE,FD,l,_,_,rfl,rfl,b_,by rw[Vq];show xs.length+1<_;omega,?_⟩
  refine⟨_,_,rfl,s3.upd hl,b_,?_⟩
  rw[e]
  exact iy (iy h2 k3) k4
 ·rintro σ H2 ⟨v0,xs,rfl,s2,h1,h2⟩
  have e0:(as.map V.ref).length=p.iB.length:=by rw[So,hlen]
  rw[e0] at h2
  have hxl:xs.length≤p.j0.length+2*p.iB.length:=by rw[aan h2];exact zY p _
  refine⟨_,rfl,l,rfl,⟨_,gF.of h1⟩,jY (K:=K) (a:=l) (xs:=xs) (by omega) (fun i ys σ H4=>∃(v3:Option V),σ=[rr a,rr l,v0,v3]∧H4=H2∧ys.length≤i∧Paired (lx H) ys (((AX p p.iB.length).take i).filterMap id))
   ⟨none,rfl,rfl,Vx _,.nil⟩ (by rintro _ _ _ _ _ ⟨_,_,e,e3,_⟩;subst e;exact⟨gF.of h1,e3⟩) ?_ ?_⟩
  ·rintro i v ys σ H4 hx ⟨v3,rfl,rfl,e3,h6⟩
   obtain⟨o,ho,hv⟩:=ix h2 hx
   refine⟨_,rfl,_,rfl,?_⟩
   rw[take_snoc ho,abO]
   cases o with
   | none=>
    rw[show v=V.jl from hv]
    exact⟨_,rfl,rfl,by omega,by simpa using h6⟩
   | some m=>
    obtain⟨t,rfl,ht⟩:=(show lx H v m from hv)
    exact⟨_,rfl,_,rfl,rfl,M4,iy h6 ⟨t,rfl,ht⟩⟩
  ·rintro ys σ H4 ⟨v3,rfl,rfl,e3,h6⟩ r tF
   rw[aan h2,aak,←named_eq] at h6
   have s5:=s2.new (o:=.lst ys) tF
   exact q r _ s5 (s2.free tF) ⟨ys,b_,Paired.kJ h6 fun _ _ z=>z.same s5⟩
def ON(A:Ad):Sp:=fun vs H Q _=>∃(a:Addr)(p:Pt),vs=[.ref a]∧oa A H a p∧uw p.iB.length∧uw p.j0.length∧∀r H',gj H H'→H r=none→H' r=some (.lst (gi (iK p)))→Q (.ref r) H'
theorem BF(p:Pt):(named p).length≤p.j0.length+2*p.iB.length:=by
 rw[named_eq]
 exact aac (List.length_filterMap_le _ _) (zY p _)
theorem sF(T:Txt mg)(O:Ok K mg A):ij P w K mg base l5 2 A.nj A.nq ["patch"] (ON A):=by
 have xi:=@vJ P w K mg base A T O
 refine O.oU.f.p_ kx fun jm A0 outer s H vs Q E hr h=>?_
 obtain⟨a,p,rfl,pa,Ga,EM,q⟩:=h
 obtain⟨dx,vf,pu,cu,vo,g1,g2,g3,g4,g5⟩:=id pa
 have Nw:p.iB.length≤4000:=Ga
 have KR:p.j0.length≤4000:=EM
 have sz:sizeLine=16777216:=aay
 have Lb:=BF p
 refine⟨_,(de (B2 (j:=1) ni (gb jN).names [2] kx.nd rfl rfl rfl (ie (nE O.sd xi hr (a_ (pv 0) d_))) rfl (by decide+kernel) (fun _ _ _ _=>(iz (i:=2) kx.nd rfl (Or.inl rfl))) (fun _ _ _ _=>⟨_,nI (ib Du (jW oY (pv 2) gg (fun _ _=>rfl)) (gC (pv 0) rfl) (iA _)),by(try simp only [kD]);rfl⟩) (fun _ _ _ _=>AF (jW oY (pv 2) gg (fun _ _=>rfl))))
   (de (ir (jv (sR (gC (pv 0) rfl))) (f_ (gM (ow aaF aaQ aaR j8 (pv 1) (a_ (gC (pv 0) rfl) d_)))) g_)
   (f_ (gR (pv 1))))),?_⟩
 refine DO ?_;intro _ _
 refine⟨_,rfl,a,p,rfl,pa,Ga,EM,fun n H1 s1 hn0 ⟨ns,Zq,Pe⟩=>?_⟩
 have WW:=aan Pe
 let Jv:=fun(i:Nat) (ys:List V) (σ:St) (H4:Hp)=>∃(v2:Option V)(zs:List Str),σ=[rr a,none,v2]∧H4=H1∧ys=gi zs∧zs.length≤i∧zs=(((named p).take i).filter fun n=>n.1≠p.nm).map (·.1)
 refine⟨n,rfl,⟨_,gF.of Zq⟩,jY (K:=K) (a:=n) (xs:=ns) (by omega) Jv
  ⟨none,[],rfl,rfl,rfl,Vx _,rfl⟩ (by rintro _ _ _ _ _ ⟨_,zs,_,e,e2,e3,_⟩;subst e e2;exact⟨gF.of Zq,by rw[So];exact e3⟩) ?_ ?_⟩
 ·rintro i v ys σ H4 hx ⟨v2,zs,rfl,rfl,rfl,e3,e4⟩
  obtain⟨m,hm,t,rfl,ht⟩:=ix Pe hx
  have Zr:DC ((nk m).map kV) 0=some (V.str m.1):=ic (j:=0) rfl rfl
  refine⟨_,rfl,t,_,0,_,rfl,rfl,rg.of ht,Zr,_,rfl,a,A.gP,dx,_,_,rfl,s1 _ _ g1,O.jq,O.iW,sx,rfl,_,rfl,?_⟩
  have ed:decide (V.str m.1=V.str p.nm)=decide (m.1=p.nm):=by
   by_cases e:m.1=p.nm
   ·rw[Vy e,Vy (aa2 V.str e)]
   ·rw[aab e,aab fun z=>e (V.str.inj z)]
  rw[ed]
  subst e4
  by_cases e:m.1=p.nm
  ·rw[Vy e]
   refine jz ⟨_,_,rfl,rfl,rfl,by omega,?_⟩
   rw[take_snoc hm,aaH,aag (by simpa using e)]
   simp
  ·rw[aab e]
   refine l6 ⟨_,rfl,t,_,0,_,rfl,rfl,rg.of ht,Zr,_,_,rfl,rfl,i8 _ _,by rw[Vq];show _+1≤_;omega,?_⟩
   rw[take_snoc hm,aaH,YK (by simpa using e)]
   simp
 ·rintro ys σ H4 ⟨v2,zs,rfl,rfl,rfl,e3,e4⟩ r tF
  rw[WW,aak] at e4
  have s5:=s1.new (o:=.lst (gi zs)) tF
  refine⟨_,rfl,a,A.gP,dx,_,_,rfl,s5 _ _ g1,O.jq,O.iY,sZ,_,rfl,?_⟩
  unfold iK at q
  rw[←e4] at q
  cases ho:p.other with
  | none=>
   rw[ho] at g5 q
   rw[show vo=V.jl from g5]
   exact⟨_,rfl,q r _ s5 (s1.free tF) (by rw[b_];simp)⟩
  | some x=>
   rw[ho] at g5 q
   rw[show vo=V.str x from g5] at g1 ⊢
   refine⟨_,rfl,.inl ⟨rfl,_,gF.of b_⟩,_,rfl,a,A.gP,dx,_,_,rfl,s5 _ _ g1,O.jq,O.iY,sZ,r,_,_,rfl,rfl,b_,by rw[So];omega,?_⟩
   exact⟨_,rfl,q r _ (s5.upd (s1.free tF)) (s1.free tF) (by rw[b_];show _=some (HO.lst (gi (zs++[x])));rw[←i8])⟩
def RG(H:Hp)(a:Addr)(kn:Nat→Option Nm):Prop:=∃kvs:List (Key×V),H a=some (.dK kvs)∧∀s:Nat,match kn s with|some m=>∃v,iN kvs (Sum.inl (s:Int))=some v∧lx H v m|none=>iN kvs (Sum.inl (s:Int))=none
def VG:Sp:=fun vs H Q _=>∃(a:Addr)(n:Nat)(kn:Nat→Option Nm),vs=[.ref a,.int n]∧RG H a kn∧n≤4000∧∀p H' xs,gj H H'→H p=none→H' p=some (.lst xs)→xs.length=n→(∀i v,xs[i]?=some v→FA H v (LW kn (n-1-i) i))→Q (.ref p) H'
theorem zZ(T:Txt mg)(O:Ok K mg A):ij P w K mg base l5 1 A.tP A.tQ ["kept_names","size"] VG:=by
 refine O.yj.f.p_ nU fun jm A0 outer s H vs Q E hr h=>?_
 obtain⟨a,n,kn,rfl,⟨kvs,h1,h2⟩,hn,q⟩:=h
 have sz:sizeLine=16777216:=aay
 refine⟨_,(de (lu 2 nU (gz Fi (iU (a_ t_ d_)) (pv 1)))
   (de (iu aap rfl (wj rfl T.kX (a_ (gz y8 (pv 1) gg) (a_ (xq rm gg) (a_ (xq rm gg) d_)))) (rf 3 nU) (f_ (BV (IX (by exact iV hr) (pv 0) (gz iI (pv 3) gg) (rD (pv 2) (gz iI (pv 3) gg)) ⟨rfl,rfl,rfl,rfl⟩) (BU (pv 2) (pv 3) set_list))))
   (f_ (gR (pv 2))))),?_⟩
 refine DO ?_;intro _ _
 refine⟨L2.jI,fun l hl=>?_⟩
 refine⟨_,rfl,l,_,_,rfl,rfl,b_,by omega,by omega,by simp;omega,fun p hp=>?_⟩
 have oh:p≠l:=fun z=>by rw[z,b_] at hp;cases hp
 have F_:H p=none:=by rw[e_ oh] at hp;exact hp
 have e0:(List.replicate (n:Int).toNat [V.jl]).flatten=List.replicate n V.jl:=by
  rw[abS]
  clear q hn
  induction n with
  | zero=>rfl
  | succ n ih=>rw[aa8,abT,ih,aa8];rfl
 rw[e0]
 have s1:gj H (upd (upd H l (.lst [V.jl])) p (.lst (List.replicate n V.jl))):=((gj.refl H).upd hl).upd F_
 refine⟨_,rfl,_,_,rfl,rfl,_,rfl,_,rfl,_,_,rfl,⟨by omega,by omega,by omega,by omega⟩,?_⟩
 rw[show((n:Int)-2 - -1).toNat=n-1 by omega]
 let Jv:=fun(m:Nat) (σ:St) (H2:Hp)=>∃(v:Option V)(xs:List V),σ=[rr a,ri n,rr p,v]∧gj H H2∧H2 p=some (.lst xs)∧xs.length=n∧∀i v,xs[i]?=some v→n-1≤i+m→FA H v (LW kn (n-1-i) i)
 refine ud Jv ⟨none,_,rfl,s1,b_,by simp,fun i v hv hi=>?_⟩ ?_ ?_
 ·have kB:i<n:=by have:=(List.getElem?_eq_some_iff.mp hv).1;simpa using this
  have:v=V.jl:=by
   have:=Vs hv
   exact List.eq_of_mem_replicate this
  rw[this,show n-1-i=0 by omega]
  exact rfl
 ·rintro m σ H2 hm ⟨v0,xs,rfl,s2,k1,k2,k3⟩
  obtain⟨j,hj⟩:∃j,j+m+2=n:=⟨n-2-m,by omega⟩
  rw[show(n:Int)-2+(m:Int) * -1=(j:Int) by omega]
  have hx:xs[j+1]?=some xs[j+1]:=Su (by omega)
  refine⟨_,rfl,a,rfl,.inl ⟨_,.inl (s2 _ _ h1)⟩,_,rfl,_,_,rfl,rfl,_,rfl,_,rfl,_,_,rfl,rfl,p,_,_,_,rfl,rfl,gF.of k1,ic (j:=j+1) (by omega) hx,_,i7.k (k:=Sum.inl ((j:Int)+1)) (s2 _ _ h1),?_⟩
  refine⟨_,rfl,_,rfl,p,_,_,j,rfl,rfl,k1,B5 rfl (by omega),?_⟩
  refine⟨_,_,rfl,s2.upd F_,b_,by rw[ack];exact k2,fun i v hv hi=>?_⟩
  by_cases e:i=j
  ·subst e
   rw[abc (by omega)] at hv
   have hv:=aaz hv
   rw[←hv,show n-1-i=(n-1-(i+1))+1 by omega]
   unfold LW
   have h3:=h2 (i+1)
   rw[show((i+1:Nat):Int)=(i:Int)+1 by omega] at h3
   cases hk:kn (i+1) with
   | none=>
    rw[hk] at h3
    rw[h3]
    exact k3 (i+1) _ hx (by omega)
   | some mm=>
    rw[hk] at h3
    obtain⟨u,z1,z2⟩:=h3
    rw[z1]
    exact z2
  ·rw[abn (fun z=>e z.symm)] at hv
   exact k3 i v hv (by omega)
 ·rintro σ H2 ⟨v0,xs,rfl,s2,k1,k2,k3⟩
  exact⟨_,rfl,q p H2 xs s2 F_ k1 k2 fun i v hv=>k3 i v hv (by omega)⟩
def VH(K:Qqy)(A:Ad):Sp:=fun vs H Q _=>∃(x:Str)(t a:Addr)(texts:List Str)(kn:Nat→Option Nm),vs=[.str x,.ref t,.ref a]∧gF K H t (gi texts)∧(∀H',gj H H'→gF K H' t (gi texts))∧RG H a kn∧texts.length≤4000∧∀p H',gj H H'→H p=none→qB A H' p (ku x texts kn)→Q (.ref p) H'
theorem CC(T:Txt mg)(O:Ok K mg A):ij P w K mg base l5 3 A.xN A.xO ["patch","texts","kept_names"] (VH K A):=by
 have A8:=@zZ P w K mg base A T O
 have yL:=@CB P w K mg base A T O
 refine O.Bu.f.p_ jE fun jm A0 outer s H vs Q E hr h=>?_
 obtain⟨x,t,a,texts,kn,rfl,_,ht,Zs,hn,q⟩:=h
 have sz:sizeLine=16777216:=aay
 have et:((gi texts).length:Int)=(texts.length:Int):=by simp
 obtain⟨kvs,h1,h2⟩:=id Zs
 refine⟨_,(de (lu 3 jE (nE O.yj A8 hr (a_ (pv 2) (a_ (gA gp (by rfl) T.jh aao (a_ (pv 1) d_)) d_))))
   (de (lu 4 jE (iU d_))
   (de (lu 5 jE t_)
   (de (iu aap rfl (LQ rfl T.Eb (a_ (pv 1) d_)) (ID rfl (uK (rf 6 jE) (uK (rf 7 jE) Gk))) (f_ (ir (jv (oZ (by exact iV hr) (pv 6) (pv 2))) (f_ (lu 5 jE (zt hr (pv 2) (pv 6)))) (de (gM (ow aaF aaQ aaR j8 (pv 4) (a_ (uO O.OA yL (hr.mono (by decide)) (by rfl) O.OB O.tT.b .nil oy (a_ (BX (a_ (pv 0) (a_ (gA gp (by rfl) T.jh aao (a_ (pv 4) d_)) d_))) (a_ (pv 7) (a_ (pv 5) (a_ (rD (pv 3) (pv 6)) d_))))) d_)))
   (f_ (lu 5 jE (gC (rD (pv 4) (xq rm gg)) rfl)))))))
   (f_ (gR (pv 4))))))),?_⟩
 refine Qc ?_;intro _ _ _ _
 refine⟨_,rfl,_,rfl,t,_,rfl,.inl (ht H (gj.refl H)),?_⟩
 rw[et]
 refine⟨a,texts.length,kn,rfl,Zs,hn,fun b H1 bs s1 Nx S9 Nh SJ=>?_⟩
 refine⟨L2.jI,fun l hl=>?_⟩
 have Wm:H l=none:=s1.free hl
 have s2:gj H1 (upd H1 l (.lst [])):=(gj.refl H1).new hl
 refine⟨_,rfl,t,rfl,⟨_,ht _ (s1.trans s2)⟩,JD (K:=K) (a:=t) (xs:=gi texts) (fun i σ H2=>∃(v6 v7:Option V)(vu:V)(u:Option Nm)(as:List Addr)(acc:List Ln),σ=[rs x,rr t,rr a,rr b,rr l,some vu,v6,v7]∧gj H1 H2∧H2 l=some (.lst (as.map V.ref))∧Paired (mY A H2) as acc∧acc.length≤i∧FA H2 vu u∧acc++tm x kn i acc.length u (texts.drop i)=ku x texts kn)
  ⟨none,none,.jl,none,[],[],rfl,s2,b_,.nil,Vx _,rfl,rfl⟩ (by rintro _ _ _ _ ⟨_,_,_,_,_,_,_,s3,_⟩;exact ht _ (s1.trans s3)) ?_ ?_⟩
 ·rintro i tv e σ H2 hx ⟨v6,v7,vu,u,as,acc,rfl,s3,k1,k2,k3,k4,k5⟩ he
  obtain⟨tx,Zt,rfl⟩:=jM hx
  have hi:i<texts.length:=(List.getElem?_eq_some_iff.mp Zt).1
  have hd:texts.drop i=tx::texts.drop (i+1):=by rw[aaP hi];congr 1;exact(List.getElem?_eq_some_iff.mp Zt).2
  have s4:gj H2 (upd H2 e (.tup [.int i,.str tx])):=(gj.refl H2).new he
  have A9:=s3.trans s4
  rw[hd] at k5
  unfold tm at k5
  refine⟨e,_,rfl,rg.of b_,rfl,_,_,rfl,_,_,rfl,rfl,?_⟩
  refine⟨_,rfl,_,rfl,a,_,rfl,i7.k (k:=Sum.inl (i:Int)) (A9 _ _ (s1 _ _ h1)),_,rfl,?_⟩
  have h3:=h2 i
  cases hk:kn i with
  | some m=>
   rw[hk] at h3 k5
   obtain⟨u',z1,z2⟩:=h3
   rw[z1]
   refine l6 ⟨_,rfl,_,rfl,a,u',rfl,?_,?_⟩
   ·have:=i7.k (k:=Sum.inl (i:Int)) (A9 _ _ (s1 _ _ h1))
    rw[z1] at this
    exact this
   ·exact⟨_,_,_,some m,as,acc,rfl,A9,s4 _ _ k1,Paired.kJ k2 fun _ _ z=>z.same s4,by omega,(z2.same s1).same A9,k5⟩
  | none=>
   rw[hk] at h3 k5
   rw[h3]
   have WV:=aan k2
   have el:((as.map V.ref).length:Int)=(acc.length:Int):=by rw[So,WV]
   refine jz ⟨_,rfl,.inl ⟨rfl,_,gF.of (s4 _ _ k1)⟩,_,rfl,_,rfl,l,_,rfl,.inl (gF.of (s4 _ _ k1)),?_⟩
   rw[el]
   refine⟨L2.jI,fun nt Zu=>?_⟩
   have s5:=A9.new (o:=.tup [.str x,.int acc.length]) Zu
   obtain⟨bv,Zv⟩:∃bv,bs[i]?=some bv:=⟨_,Su (by omega)⟩
   refine⟨_,rfl,_,rfl,_,rfl,_,rfl,b,_,_,_,rfl,rfl,gF.of (s5 _ _ S9),ic rfl Zv,?_⟩
   intro o dx no PR WX
   have Qx:gj (upd (upd H2 e (.tup [.int i,.str tx])) nt (.tup [.str x,.int acc.length])) (upd (upd (upd (upd H2 e (.tup [.int i,.str tx])) nt (.tup [.str x,.int acc.length])) dx (.own o)) o (.ins A.gJ dx [])):=fun c u e=>by
    rw[e_ (gh e no),e_ (gh e PR)]
    exact e
   refine⟨o,dx,_,_,_,_,rfl,b_,fun H6 r6 r7=>⟨rfl,?_⟩⟩
   have s6:gj (upd (upd H2 e (.tup [.int i,.str tx])) nt (.tup [.str x,.int acc.length])) H6:=fun c u ec=>by
    rw[r6 c (gh ec no)]
    exact Qx c u ec
   have S_:gj H2 H6:=(s4.new Zu).trans s6
   have Ta:=S_ _ _ k1
   have Lv:mY A H6 o ⟨(x,acc.length),tx,u,LW kn (texts.drop (i+1)).length i⟩:=⟨dx,.ref nt,vu,bv,r7,⟨nt,rfl,s6 _ _ b_⟩,k4.same S_,by
    have:=SJ i bv Zv
    rw[List.length_drop,show texts.length-(i+1)=texts.length-1-i by omega]
    exact(this.same s1).same (s3.trans S_)⟩
   refine⟨l,_,_,rfl,rfl,Ta,by rw[So];omega,?_⟩
   have lo:l≠o:=fun z=>by rw[z,r7] at Ta;cases Ta
   have e7:upd H6 l (.lst (as.map V.ref++[V.ref o])) l=some (.lst ((as++[o]).map V.ref)):=by rw[b_,aat];rfl
   have up:∀c ln,mY A H6 c ln→mY A (upd H6 l (.lst (as.map V.ref++[V.ref o]))) c ln:=fun c ln z=>z.upd Ta (fun _ z=>by cases z) (fun _ _ _ z=>by cases z)
   have r77:upd H6 l (.lst (as.map V.ref++[V.ref o])) o=some (.ins A.gJ dx (L3 (.ref nt) (.str tx) vu bv)):=by rw[e_ lo.symm];exact r7
   refine⟨_,rfl,_,rfl,l,_,_,_,rfl,rfl,gF.of b_,DD _ _,o,A.gJ,dx,_,_,rfl,r77,O.iM,O.gH,iZ,?_⟩
   refine⟨_,_,_,some (x,acc.length),as++[o],acc++[⟨(x,acc.length),tx,u,LW kn (texts.drop (i+1)).length i⟩],rfl,(s3.trans S_).upd hl,e7,?_,M4,?_,?_⟩
   ·exact iy (Paired.kJ k2 fun c ln z=>up c ln (z.same S_)) (up _ _ Lv)
   ·exact lx.upd ⟨nt,rfl,s6 _ _ b_⟩ Ta (fun _ z=>by cases z)
   ·rw[aaK,Vq]
    exact k5
 ·rintro σ H2 ⟨v6,v7,vu,u,as,acc,rfl,s3,k1,k2,k3,k4,k5⟩
  rw[show(gi texts).length=texts.length by simp,acg] at k5
  rw[show tm x kn texts.length acc.length u []=[] from rfl,aaJ] at k5
  rw[k5] at k2
  exact⟨_,rfl,q l H2 (s1.trans s3) Wm ⟨as,k1,k2⟩⟩
theorem GL{row:List Ln}{q:Nat×Nat}:∀{xs:List (Nat×Nat)},q.2∉xs.map (·.2)→∀s,mO row (xs++[q]) s=if q.2=s then(row[q.1]?).map (·.nm) else mO row xs s
 | [],_,s=>rfl
 | x::r,h,s=>by
  rw[aaw] at h
  have h1:q.2≠x.2:=fun z=>h (by rw[z];exact aav)
  have h2:q.2∉r.map (·.2):=fun z=>h (aaj _ z)
  show(if x.2=s then _ else mO row (r++[q]) s)=if q.2=s then _ else(if x.2=s then _ else mO row r s)
  by_cases e:x.2=s
  ·rw[aaq e,aal (fun z=>h1 (by rw[z,e])),aaq e]
  ·rw[aal e,aal e,GL h2 s]
theorem HQ{row:List Ln}{q:Nat×Nat}{l:Ln}(xs:List (Nat×Nat))(h:row[q.1]?=some l):ue row (xs++[q])=ue row xs++[l.nm]:=by
 unfold ue
 rw[abO,abu,h]
 rfl
theorem J7(T:Txt mg)(O:Ok K mg A):ij P w K mg base l5 3 A.JO A.JP ["old","new"] Kp.YO:=
 Kp.L9 O.kept.f ⟨T.jh,T.kX,T.Ro⟩ O.r_.f O.r_.b O.r_.m O.um.f O.um.b O.um.m O.uo.f O.uo.b O.uo.m
def RH(A:Ad):Sp:=fun vs H Q _=>∃(x f:Str)(r t:Addr)(row:List Ln)(texts:List Str),vs=[.str x,.str f,.ref r,.ref t]∧qB A H r row∧H t=some (.lst (gi texts))∧row.length≤1000∧texts.length≤1000∧
 ∀p H',gj H H'→H p=none→oa A H' p (mG x f row texts)→Q (.ref p) H'
theorem vK(T:Txt mg)(O:Ok K mg A):ij P w K mg base l5 4 A.pU A.pV ["patch","file","row","texts"] (RH A):=by
 have PU:=@J7 P w K mg base A T O
 have EN:=@CC P w K mg base A T O
 have jT:=@o9 P w K mg base A T O
 refine O.sr.f.p_ iL fun jm A0 outer s H vs Q E hr h=>?_
 obtain⟨x,f,r,t,row,texts,rfl,EK,ht,hn,hm,q⟩:=h
 obtain⟨as,CV,E3⟩:=id EK
 have hlen:=aan E3
 have sz:sizeLine=16777216:=aay
 refine⟨_,(de (lu 4 iL nH)
   (de (ly (i:=5) iL.nd rfl (Or.inr rfl) mD)
   (de (iu aap rfl (ie (nE O.kept PU hr (a_ (xx mi (gb jQ).names [9] rfl (ie (pv 2)) rfl (by decide+kernel) (fun _ _ _ _=>(iz (i:=9) iL.nd rfl (Or.inl rfl))) (fun _ _ _ _=>mK) (fun _ _ _ _=>AF (gC (pv 9) rfl))) (a_ (pv 3) d_)))) (ID rfl (uK (rf 6 iL) (uK (rf 7 iL) Gk))) (de (jy (by exact iV hr) (pv 4) (pv 7) (gC (rD (pv 2) (pv 6)) rfl) rfl)
   (f_ (jy (by exact iV hr) (pv 5) (gC (rD (pv 2) (pv 6)) rfl) kI rfl))))
   (de (B2 (j:=8) mi (gb jQ).names [9] iL.nd rfl rfl rfl (ie (pv 2)) rfl (by decide+kernel) (fun _ _ _ _=>(iz (i:=9) iL.nd rfl (Or.inl rfl))) (fun _ _ _ _=>⟨_,nI (jv (k9 (by exact iV hr) (gC (pv 9) rfl) (pv 5))),by(try simp only [kD]);rfl⟩) (fun _ _ _ _=>AF (gC (pv 9) rfl)))
   (f_ (gR (uO O.Cq jT (hr.mono (by decide)) (by rfl) O.Cr O.lQ.b .nil oy (a_ (pv 0) (a_ (pv 1) (a_ (nE O.Bu EN hr (a_ (pv 0) (a_ (pv 3) (a_ (pv 4) d_)))) (a_ (pv 8) (a_ t_ d_)))))))))))),?_⟩
 refine Qc ?_;intro _ _ _ _
 intro k Qy g UA
 have WY:k≠g:=fun z=>by rw[←z,b_] at UA;cases UA
 have Zw:H g=none:=(gj.refl H |>.new (o:=.dK []) Qy).free UA
 have s1:gj H (upd (upd H k (.dK [])) g (.dT [])):=((gj.refl H).new Qy).new UA
 have Tc:(upd (upd H k (.dK [])) g (.dT [])) k=some (.dK []):=by rw[e_ WY];exact b_
 have Qm:(upd (upd H k (.dK [])) g (.dT [])) g=some (.dT []):=b_
 generalize upd (upd H k (.dK [])) g (.dT [])=H1 at s1 Tc Qm
 have PJ:(as.map V.ref).length≤sizeLine:=by rw[So,hlen];omega
 let Jv:=fun(i:Nat) (ys:List V) (σ:St) (H4:Hp)=>∃(v9:Option V),σ=[rs x,rs f,rr r,rr t,rr k,rr g,none,none,none,v9]∧H4=H1∧ys=gi ((row.take i).map (·.tx))
 refine⟨_,rfl,r,rfl,⟨_,gF.of (s1 _ _ CV)⟩,jY (K:=K) (a:=r) (xs:=as.map V.ref) PJ Jv
  ⟨none,rfl,rfl,rfl⟩ (by rintro _ _ _ _ _ ⟨_,_,e,e2⟩;subst e e2;exact⟨gF.of (s1 _ _ CV),by rw[So,So,aaB];omega⟩) ?_ ?_⟩
 ·rintro i v ys σ H4 hx ⟨v9,rfl,rfl,rfl⟩
  obtain⟨b,hb,rfl⟩:=j3 hx
  obtain⟨ln,vQ,dx,vn,vu,vl,k1,k2,k3,k4⟩:=ix E3 hb
  refine⟨_,rfl,b,A.gJ,dx,_,_,rfl,s1 _ _ k1,O.iM,O.jG,zT,_,rfl,rfl,?_⟩
  rw[take_snoc vQ,aat,i8]
  rfl
 ·rintro ys σ H4 ⟨v9,rfl,rfl,rfl⟩ o UB
  rw[So,hlen,aak]
  have s2:gj H4 (upd H4 o (.lst (gi (row.map (·.tx))))):=(gj.refl H4).new UB
  refine⟨_,rfl,row.map (·.tx),texts,o,t,rfl,b_,s2 _ _ (s1 _ _ ht),by rw[So];exact hn,hm,fun pr H5 ps s5 Im Td PV=>?_⟩
  have Te:gj H4 H5:=s2.trans s5
  have Zx:gj H H5:=s1.trans Te
  have rise:=sV (row.map (·.tx)) texts
  rw[So] at rise
  have WZ:(K01.kept (row.map (·.tx)) texts).length≤1000:=by
   rw[K01.xy]
   have:=K01.DW (row.map (·.tx)) texts
   rw[So] at this
   omega
  generalize hqs:K01.kept (row.map (·.tx)) texts=qs at PV rise WZ
  have Nv:=aan PV
  let Jv:=fun(i:Nat) (σ:St) (H6:Hp)=>∃(v6 v7:Option V)(kk:List (Key×V))(kg:List (List Key×V)),σ=[rs x,rs f,rr r,rr t,rr k,rr g,v6,v7,none,none]∧(∀b o,H5 b=some o→b≠k→b≠g→H6 b=some o)∧H6 k=some (.dK kk)∧kk.length≤i∧(∀s:Nat,match mO row (qs.take i) s with|some m=>∃v,iN kk (Sum.inl (s:Int))=some v∧lx H v m|none=>iN kk (Sum.inl (s:Int))=none)∧H6 g=some (.dT kg)∧kg.length≤i∧Qf kg (ue row (qs.take i))
  refine⟨pr,rfl,⟨_,gF.of Td⟩,iH (K:=K) (a:=pr) (xs:=ps) Jv
   ⟨none,none,[],[],rfl,fun b o e _ _=>e,Te _ _ Tc,Vx _,(fun s=>by rw[abx];exact rfl),Te _ _ Qm,Vx _,(fun n=>rfl)⟩ (by rintro _ _ _ _ ⟨_,_,_,_,_,e,_⟩;exact gF.of (e _ _ Td (fun z=>by rw[z] at Im;rw[s2 _ _ Tc] at Im;cases Im) (fun z=>by rw[z] at Im;rw[s2 _ _ Qm] at Im;cases Im))) ?_ ?_⟩
  ·rintro i v σ H6 hx ⟨v6,v7,kk,kg,rfl,e1,e2,e3,e4,e5,e6,e7⟩
   obtain⟨qq,hq,pt,rfl,Lc⟩:=lh PV hx
   have W0:H5 k=some (.dK []):=Te _ _ Tc
   have W3:H5 g=some (.dT []):=Te _ _ Qm
   have hi:i<qs.length:=(List.getElem?_eq_some_iff.mp hq).1
   obtain⟨S9,PH⟩:=rise.2 qq (Vs hq)
   obtain⟨b,Uz,Zy⟩:=zX E3 (Su S9)
   have E2:row[qq.1]?=some row[qq.1]:=Su S9
   generalize row[qq.1]=ln at Zy E2
   obtain⟨dx,vn,vu,vl,z1,⟨nt,rfl,z2⟩,z3,z4⟩:=Zy
   have up:∀{b o},H b=some o→H6 b=some o:=fun{b o} e=>e1 b o (Zx _ _ e) (fun z=>by rw[z,Qy] at e;cases e) (fun z=>by rw[z,Zw] at e;cases e)
   refine⟨pt,_,rfl,rg.of (e1 _ _ Lc (i4 Lc W0 (fun z=>by cases z)) (i4 Lc W3 (fun z=>by cases z))),rfl,_,_,rfl,_,_,rfl,rfl,?_⟩
   refine⟨_,rfl,_,rfl,r,_,_,_,rfl,rfl,gF.of (up CV),ic rfl Uz,b,A.gJ,dx,_,_,rfl,up z1,O.iM,O.gH,iZ,_,rfl,_,rfl,k,_,rfl,nv.k (k:=Sum.inl (qq.2:Int)) e2 (by omega),?_⟩
   have W4:∀{b o},H b=some o→upd H6 k (.dK (putK kk (Sum.inl (qq.2:Int)) (V.ref nt))) b=some o:=fun{b o} e=>by rw[e_ (fun z=>by rw[z,Qy] at e;cases e)];exact up e
   have We:=js kk (Sum.inl (qq.2:Int):Key) (V.ref nt)
   have KA:=js kg (nk ln.nm) (V.bl true)
   refine⟨_,rfl,_,rfl,_,rfl,r,_,_,_,rfl,rfl,gF.of (W4 CV),ic rfl Uz,b,A.gJ,dx,_,_,rfl,W4 z1,O.iM,O.gH,iZ,g,_,rfl,nv.t (k:=nk ln.nm) (by rw[e_ WY.symm];exact e5) (W4 z2) (by omega),?_⟩
   have Gb:qq.2∉(qs.take i).map (·.2):=fun z=>by
    obtain⟨w1,hw1,ew⟩:=List.mem_map.mp z
    obtain⟨j,hj⟩:=aaL.mp hw1
    have Ik:j<i:=by have:=(List.getElem?_eq_some_iff.mp hj).1;rw[aaB] at this;omega
    rw[abN,aaq Ik] at hj
    obtain⟨UC,Zz⟩:=List.getElem?_eq_some_iff.mp hj
    have:=abQ.mp rise.1 j i UC hi Ik
    rw[Zz,(List.getElem?_eq_some_iff.mp hq).2] at this
    omega
   refine⟨_,_,_,_,rfl,fun b o e nk ng=>?_,by rw[e_ WY];exact b_,by omega,fun s=>?_,b_,by omega,?_⟩
   ·rw[e_ ng,e_ nk];exact e1 b o e nk ng
   ·rw[take_snoc hq,GL Gb,j4]
    by_cases es:qq.2=s
    ·subst es
     rw[aaq rfl,aaq rfl,E2]
     exact⟨_,rfl,nt,rfl,z2⟩
    ·rw[aal es,aal (fun z=>es (by have:=Sum.inl.inj z;omega))]
     exact e4 s
   ·rw[take_snoc hq,HQ _ E2]
    exact e7.put ln.nm _
  ·rintro σ H6 ⟨v6,v7,kk,kg,rfl,e1,e2,e3,e4,e5,e6,e7⟩
   rw[←Nv,aak] at e4 e7
   have up:∀{b o},H b=some o→H6 b=some o:=fun{b o} e=>e1 b o (Zx _ _ e) (fun z=>by rw[z,Qy] at e;cases e) (fun z=>by rw[z,Zw] at e;cases e)
   have sH6:gj H H6:=fun b o e=>up e
   refine⟨_,rfl,r,rfl,⟨_,gF.of (up CV)⟩,jY (K:=K) (a:=r) (xs:=as.map V.ref) PJ (fun i ys σ H4=>∃(v9:Option V),σ=[rs x,rs f,rr r,rr t,rr k,rr g,v6,v7,none,v9]∧H4=H6∧ys.length≤i∧Paired (lx H) ys (((row.take i).filter fun l=>l.nm∉ue row qs).map (·.nm)))
    ⟨none,rfl,rfl,Vx _,.nil⟩ (by rintro _ _ _ _ _ ⟨_,_,e,e20,_⟩;rw[e];exact⟨gF.of (up CV),e20⟩) ?_ ?_⟩
   ·rintro i v ys σ H7 hx ⟨v9,rfl,rfl,e8,e9⟩
    obtain⟨b,hb,rfl⟩:=j3 hx
    obtain⟨ln,vQ,dx,vn,vu,vl,k1,⟨nt,rfl,k2⟩,k3,k4⟩:=ix E3 hb
    refine⟨_,rfl,b,A.gJ,dx,_,_,rfl,up k1,O.iM,O.gH,iZ,_,rfl,g,_,rfl,i7.t (k:=nk ln.nm) e5 (up k2),_,rfl,?_⟩
    rw[e7 ln.nm,take_snoc vQ,aaH,aat]
    by_cases A6:ln.nm∈ue row qs
    ·rw[Vy A6]
     refine jz ⟨_,rfl,rfl,by omega,?_⟩
     rw[aag (by simpa using A6),aaY,List.map_nil,aaJ]
     exact e9
    ·rw[aab A6]
     refine l6 ⟨_,rfl,b,A.gJ,dx,_,_,rfl,up k1,O.iM,O.gH,iZ,_,rfl,rfl,M4,?_⟩
     rw[YK (by simpa using A6),aaY]
     exact iy e9 ⟨nt,rfl,k2⟩
   ·rintro ys σ H7 ⟨v9,rfl,rfl,e8,e9⟩ c UD
    rw[So,hlen,aak] at e9
    have s8:=sH6.new (o:=.lst ys) UD
    have WJ:c≠k:=fun z=>by rw[z,e2] at UD;cases UD
    refine⟨_,rfl,_,rfl,_,rfl,_,rfl,_,rfl,x,t,k,texts,mO row qs,rfl,gF.of (s8 _ _ ht),fun H' s'=>gF.of (s' _ _ (s8 _ _ ht)),⟨kk,by rw[e_ WJ.symm];exact e2,fun s=>?_⟩,by omega,fun pu H9 s9 hpu0 W5=>?_⟩
    ·have:=e4 s
     cases ek:mO row qs s with
     | none=>rw[ek] at this;exact this
     | some m=>rw[ek] at this;obtain⟨v,w1,w2⟩:=this;exact⟨v,w1,w2.same s8⟩
    ·refine⟨_,rfl,?_⟩
     intro o dx no PR WX
     refine⟨o,dx,_,_,_,_,_,rfl,b_,fun PX r6 r7=>⟨rfl,?_⟩⟩
     have MK:gj H9 PX:=fun c u ec=>by
      rw[r6 c (gh ec no),e_ (gh ec no),e_ (gh ec PR)]
      exact ec
     have Tf:=(s8.trans s9).trans MK
     refine q o PX Tf ((s8.trans s9).free no) ?_
     unfold mG
     rw[hqs]
     exact⟨dx,_,pu,c,.jl,r7,rfl,W5.same MK,⟨ys,MK _ _ (s9 _ _ b_),Paired.kJ e9 fun _ _ z=>z.same Tf⟩,rfl⟩
noncomputable def lY:Str:=Str.ofString "abcdefghijklmnopqrstuvwxyz0123456789"
def Good(x:Str):Prop:=1≤x.length∧x.length≤12∧∀c∈x.cps.toList,c∈lY.cps.toList
def jV(x:Str):Prop:=(reprText x).length≤1048576∧x.length≤1000
noncomputable abbrev sk(x:Str):Key:=Sum.inr x
theorem z8{x:Str}{l:List Str}:sk x∈l.map sk↔x∈l:=by
 constructor
 ·intro h
  obtain⟨m,hm,e⟩:=List.mem_map.mp h
  rw[←aci e];exact hm
 ·exact fun h=>aaa h
theorem j_{dk:List (Key×V)}{l:List Str}(h:dk.map (·.1)=l.map sk):dk.length=l.length:=by
 have:=aa2 List.length h
 rwa [So,So] at this
theorem wX{dk:List (Key×V)}{l:List Str}(h:dk.map (·.1)=l.map sk){i:Nat}{k:Key}{v:V}(hi:dk[i]?=some (k,v)):∃x,l[i]?=some x∧k=sk x:=by
 have h1:(dk.map (·.1))[i]?=some k:=by rw[aae,hi];rfl
 rw[h,aae] at h1
 obtain⟨n,e,e2⟩:=Option.map_eq_some_iff.mp h1
 exact⟨n,e,e2.symm⟩
theorem kc{dk:List (Key×V)}{l:List Str}(h:dk.map (·.1)=l.map sk)(x:Str):(iN dk (sk x)).isSome=decide (x∈l):=by
 by_cases m:x∈l
 ·rw[Vy m];exact s_.mpr (by rw[h];exact z8.mpr m)
 ·rw[aab m,abE];exact fun z=>m (z8.mp (by rw[←h];exact s_.mp z))
theorem p8{dk:List (Key×V)}{l:List Str}(h:dk.map (·.1)=l.map sk){x:Str}(hx:x∉l)(v:V):(putK dk (sk x) v).map (·.1)=(l++[x]).map sk:=by
 rw[p7,h,aal (fun z=>hx (z8.mp z)),aat];rfl
theorem FJ{dk:List (Key×V)}{l:List Str}(h:dk.map (·.1)=l.map sk):(dk.map fun kv=>kV kv.1)=gi l:=by
 have:(dk.map fun kv=>kV kv.1)=(dk.map (·.1)).map kV:=by rw[List.map_map];rfl
 rw[this,h,List.map_map];rfl
noncomputable def z_(m n h:Addr):List (Str×V):=[("made",.ref m),("needs",.ref n),("held",.ref h)]
theorem OO(m n h:Addr):jB "held" (.ref h) (jB "needs" (.ref n) (jB "made" (.ref m) []))=z_ m n h:=by kernel_rfl
theorem kS(m n h:Addr):(z_ m n h).lookup ("held":Str)=some (V.ref h):=by kernel_rfl
theorem n_(m n h:Addr):(z_ m n h).lookup ("made":Str)=some (V.ref m):=by kernel_rfl
theorem tf(m n h:Addr):(z_ m n h).lookup ("needs":Str)=some (V.ref n):=by kernel_rfl
structure Dp where
 dx:Addr
 m:Addr
 n:Addr
 h:Addr
 ha:Str→Addr
 kM:List (Key×V)
 kN:List (Key×V)
 kH:List (Key×V)
structure M7(A:Ad)(H:Hp)(d:Addr)(D:Dk)(W:Addr→Prop)(π:Dp):Prop where
 hd:H d=some (.ins A.gr π.dx (z_ π.m π.n π.h))
 hm:H π.m=some (.dK π.kM)
 hn:H π.n=some (.dK π.kN)
 hh:H π.h=some (.dK π.kH)
 mn:π.m≠π.n
 mh:π.m≠π.h
 nh:π.n≠π.h
 wm:W π.m
 wn:W π.n
 wh:W π.h
 km:π.kM.map (·.1)=D.names.map sk
 vm:∀p∈D.made,∃a,iN π.kM (sk p.nm)=some (.ref a)∧oa A H a p
 kn:π.kN.map (·.1)=D.names.map sk
 vn:∀x∈D.names,∃(a:Addr)(kv:List (Key×V))(l:List Str),iN π.kN (sk x)=some (.ref a)∧¬W a∧H a=some (.dK kv)∧kv.map (·.1)=l.map sk∧l.Nodup∧∀y,y∈l↔y∈D.iC x
 kh:π.kH.map (·.1)=D.stores.map sk
 vh:∀s∈D.stores,iN π.kH (sk s)=some (.ref (π.ha s))∧W (π.ha s)∧π.ha s≠π.m∧π.ha s≠π.n∧π.ha s≠π.h∧∃kv:List (Key×V),H (π.ha s)=some (.dK kv)∧kv.map (·.1)=(D.held s).map sk
 inj:∀s∈D.stores,∀t∈D.stores,π.ha s=π.ha t→s=t
 dk:∀b,W b→∃kv,H b=some (.dK kv)
def ig(A:Ad)(H:Hp)(d:Addr)(D:Dk)(W:Addr→Prop):Prop:=∃π,M7 A H d D W π
theorem M7.same{A:Ad}{H H':Hp}{d:Addr}{D:Dk}{W:Addr→Prop}{π:Dp}(x:M7 A H d D W π)(s:gj H H'):M7 A H' d D W π where
 hd:=s _ _ x.hd
 hm:=s _ _ x.hm
 hn:=s _ _ x.hn
 hh:=s _ _ x.hh
 mn:=x.mn
 mh:=x.mh
 nh:=x.nh
 wm:=x.wm
 wn:=x.wn
 wh:=x.wh
 km:=x.km
 vm:=fun p hp=>by obtain⟨a,h1,h2⟩:=x.vm p hp;exact⟨a,h1,h2.same s⟩
 kn:=x.kn
 vn:=fun y hy=>by obtain⟨a,kv,l,h1,h2,h3,h4⟩:=x.vn y hy;exact⟨a,kv,l,h1,h2,s _ _ h3,h4⟩
 kh:=x.kh
 vh:=fun t ht=>by obtain⟨h1,h2,h3,h4,h5,kv,h6,h7⟩:=x.vh t ht;exact⟨h1,h2,h3,h4,h5,kv,s _ _ h6,h7⟩
 inj:=x.inj
 dk:=fun b hb=>by obtain⟨kv,h⟩:=x.dk b hb;exact⟨kv,s _ _ h⟩
theorem ig.same{A:Ad}{H H':Hp}{d:Addr}{D:Dk}{W:Addr→Prop}(x:ig A H d D W)(s:gj H H'):ig A H' d D W:=by
 obtain⟨π,x⟩:=x
 exact⟨π,x.same s⟩
def lZ(W:Addr→Prop)(H H':Hp):Prop:=∀b o,H b=some o→¬W b→H' b=some o
theorem lZ.of{W:Addr→Prop}{H H':Hp}(s:gj H H'):lZ W H H':=fun b o e _=>s b o e
theorem ig.lst{A:Ad}{H:Hp}{d a:Addr}{D:Dk}{W:Addr→Prop}{xs:List V}(x:ig A H d D W)(h:H a=some (.lst xs)):¬W a:=fun z=>by
 obtain⟨π,x⟩:=x
 obtain⟨kv,e⟩:=x.dk a z
 rw[h] at e;cases e
theorem ig.jl{A:Ad}{H:Hp}{d a:Addr}{D:Dk}{W:Addr→Prop}(x:ig A H d D W)(h:H a=none):¬W a:=fun z=>by
 obtain⟨π,x⟩:=x
 obtain⟨kv,e⟩:=x.dk a z
 rw[h] at e;cases e
theorem jx{m n h:Addr}:(z_ m n h).lookup ("check_store":Str)=none:=by kernel_rfl
theorem qD{m n h:Addr}:(z_ m n h).lookup ("check_new":Str)=none:=by kernel_rfl
theorem o_{m n h:Addr}:(z_ m n h).lookup ("check_held":Str)=none:=by kernel_rfl
theorem AY{m n h:Addr}:(z_ m n h).lookup ("check_made":Str)=none:=by kernel_rfl
theorem CD{m n h:Addr}:(z_ m n h).lookup ("keep":Str)=none:=by kernel_rfl
theorem pb{m n h:Addr}:(z_ m n h).lookup ("has":Str)=none:=by kernel_rfl
theorem AZ{m n h:Addr}:(z_ m n h).lookup ("patches_of":Str)=none:=by kernel_rfl
theorem oV{m n h:Addr}:(z_ m n h).lookup ("sight_of":Str)=none:=by kernel_rfl
theorem J9{m n h:Addr}:(z_ m n h).lookup ("row":Str)=none:=by kernel_rfl
theorem ym{m n h:Addr}:(z_ m n h).lookup ("quarrels":Str)=none:=by kernel_rfl
theorem FK{m n h:Addr}:(z_ m n h).lookup ("patches":Str)=none:=by kernel_rfl
theorem J_{m n h:Addr}:(z_ m n h).lookup ("leans":Str)=none:=by kernel_rfl
theorem Ew{m n h:Addr}:(z_ m n h).lookup ("begin":Str)=none:=by kernel_rfl
theorem HR{m n h:Addr}:(z_ m n h).lookup ("record":Str)=none:=by kernel_rfl
theorem OP{m n h:Addr}:(z_ m n h).lookup ("cut":Str)=none:=by kernel_rfl
theorem Mb{m n h:Addr}:(z_ m n h).lookup ("back":Str)=none:=by kernel_rfl
theorem GN{m n h:Addr}:(z_ m n h).lookup ("take":Str)=none:=by kernel_rfl
theorem Mc{m n h:Addr}:(z_ m n h).lookup ("drop":Str)=none:=by kernel_rfl
noncomputable def T5:Dk:=⟨[],fun _=>[],[],fun _=>[]⟩
theorem VI:Inv T5:=⟨abg,(fun p hp=>by cases hp),(fun p hp=>by cases hp),⟨fun _=>0,fun p hp=>by cases hp⟩,(fun i p hp=>by simp[T5] at hp),(fun x hx=>by cases hx),abg,(fun s hs=>by cases hs),(fun s hs=>by cases hs)⟩
def OQ(A:Ad):Sp:=fun vs H Q _=>∃(p dx:Addr),vs=[.ref p]∧H p=some (.ins A.gr dx [])∧∀(H':Hp)(W:Addr→Prop),ig A H' p T5 W→(∀b,W b→H b=none)→(∀b o,H b=some o→b≠p→H' b=some o)→Q .jl H'
theorem CF(T:Txt mg)(O:Ok K mg A):ij P w K mg base l5 1 A.mX A.qS ["self"] (OQ A):=by
 refine O.tU.f.p_ wI fun jm A0 outer s H vs Q E hr h=>?_
 obtain⟨p,dx,rfl,hp,k⟩:=h
 refine⟨_,(de (lA (pv 0) nH rfl)
   (de (lA (pv 0) nH rfl)
   (f_ (lA (pv 0) nH rfl)))),?_⟩
 refine DO ?_;intro _ _
 intro m hm
 have Gd:p≠m:=gh hp hm
 refine⟨_,rfl,p,A.gr,dx,_,rfl,(by rw[e_ Gd];exact hp),O.gE,O.iO,(by show 0<1000;decide),?_⟩
 intro n hn
 have Tg:p≠n:=gh b_ hn
 have UE:m≠n:=by
  intro z;subst z;rw[e_ Gd.symm,b_] at hn;cases hn
 have hH:H n=none:=by rw[e_ Tg.symm,e_ UE.symm] at hn;exact hn
 refine⟨_,rfl,p,A.gr,dx,_,rfl,(by rw[e_ Tg];exact b_),O.gE,O.jd,(by show 1<1000;decide),?_⟩
 intro h hh
 have UG:p≠h:=gh b_ hh
 have W6:n≠h:=by
  intro z;subst z;rw[e_ Tg.symm,b_] at hh;cases hh
 have W8:m≠h:=by
  intro z;subst z;rw[e_ Gd.symm,e_ UE,e_ Gd.symm,b_] at hh;cases hh
 have ZA:H h=none:=by rw[e_ UG.symm,e_ W6.symm,e_ UG.symm,e_ W8.symm] at hh;exact hh
 refine⟨_,rfl,p,A.gr,dx,_,rfl,(by rw[e_ UG];exact b_),O.gE,O.iw,(by show 2<1000;decide),?_⟩
 have e1:∀{o},upd (upd (upd (upd (upd (upd H m (.dK [])) p (.ins A.gr dx (jB "made" (.ref m) []))) n (.dK [])) p (.ins A.gr dx (jB "needs" (.ref n) (jB "made" (.ref m) [])))) h (.dK [])) p o m=some (.dK []):=by
  intro o;rw[e_ Gd.symm,e_ W8,e_ Gd.symm,e_ UE,e_ Gd.symm,b_]
 have e2:∀{o},upd (upd (upd (upd (upd (upd H m (.dK [])) p (.ins A.gr dx (jB "made" (.ref m) []))) n (.dK [])) p (.ins A.gr dx (jB "needs" (.ref n) (jB "made" (.ref m) [])))) h (.dK [])) p o n=some (.dK []):=by
  intro o;rw[e_ Tg.symm,e_ W6,e_ Tg.symm,b_]
 have e3:∀{o},upd (upd (upd (upd (upd (upd H m (.dK [])) p (.ins A.gr dx (jB "made" (.ref m) []))) n (.dK [])) p (.ins A.gr dx (jB "needs" (.ref n) (jB "made" (.ref m) [])))) h (.dK [])) p o h=some (.dK []):=by
  intro o;rw[e_ UG.symm,b_]
 refine k _ (fun b=>b=m∨b=n∨b=h) ⟨⟨dx,m,n,h,fun _=>0,[],[],[]⟩,Eq.trans b_ (aa2 (fun l=>some (HO.ins A.gr dx l)) (OO m n h)),e1,e2,e3,UE,W8,W6,.inl rfl,.inr (.inl rfl),.inr (.inr rfl),rfl,(fun p hp=>by cases hp),rfl,(fun p hp=>by cases hp),rfl,(fun p hp=>by cases hp),(fun p hp=>by cases hp),fun b hb=>?_⟩ (fun b hb=>?_) fun b o e hb=>?_
 ·rcases hb with rfl|rfl|rfl
  ·exact⟨_,e1⟩
  ·exact⟨_,e2⟩
  ·exact⟨_,e3⟩
 ·rcases hb with rfl|rfl|rfl
  ·exact hm
  ·exact hH
  ·exact ZA
 ·rw[e_ hb,e_ (gh e ZA),e_ hb,e_ (gh e hH),e_ hb,e_ (gh e hm)]
  exact e
def Md(XB:Addr):Sp:=fun vs H Q E=>∃x:Str,vs=[.str x]∧jV x∧(Good x→Q .jl H)∧(¬Good x→E (.ref XB) none H)
theorem M8:(12:Int).natAbs.log2<1920:=by decide
theorem tW(T:Txt mg)(O:Ok K mg A):ij P w K mg base (tI P w) 1 A.vk A.vp ["name"] (Md A.jA):=by
 refine O.uq.f.ra tM fun jm A0 outer s H vs Q E hr h=>?_
 obtain⟨x,rfl,⟨hf,hl⟩,q,qe⟩:=h
 refine⟨_,(de (ir (ke (Dw IG IG gg (gA uQ (by rfl) T.jh aao (a_ (pv 0) d_)) (BS (v:=.int 12) (by rfl) O.sv ⟨_,rfl⟩))) (f_ (j5 bx O.BB (by rfl) (lC (iq i6 (iq (Jo (BS (v:=.int 12) (by rfl) O.sv ⟨_,rfl⟩)) (iq i6 (iq (mL (pv 0)) nJ))))))) g_)
   (f_ (iu Jg rfl (Oh (pv 0)) (rf 1 tM) (f_ (ir (ib BW (pv 1) (BS (v:=.str (Str.ofString "abcdefghijklmnopqrstuvwxyz0123456789")) (by rfl) O.Cs ⟨_,rfl⟩) rfl) (f_ (j5 bx O.BB (by rfl) (lC (iq i6 (iq (mL (pv 0)) nJ))))) g_))))),?_⟩
 refine K5 ?_;intro _
 have hz:x.length≤sizeLine:=aac hl (by decide)
 have bad:¬Good x→∀H',H'=H→E (.ref A.jA) none H':=fun g H' e=>by subst e;exact qe g
 refine⟨_,rfl,_,rfl,hz,_,_,rfl,rfl,_,rfl,?_⟩
 refine kq (fun h1=>?_) (fun h1=>?_)
 ·refine⟨_,_,rfl,rfl,_,rfl,?_⟩
  refine kq (fun h2=>?_) (fun h2=>?_)
  ·
   have h2:¬((x.length:Int)≤12):=by simpa using h2
   refine⟨_,rfl,by decide+kernel,⟨_,rfl,M8,_,rfl,by decide+kernel,⟨_,rfl,by decide+kernel,⟨_,rfl,_,rfl,hf,_,rfl,hf,fun _=>qe fun g=>?_⟩⟩⟩⟩
   have:=g.2.1;omega
  ·have h1:(1:Int)≤(x.length:Int):=by simpa using h1
   have h2:(x.length:Int)≤12:=by simpa using h2
   refine⟨_,rfl,x,rfl,Jn (fun i σ H2=>∃v,σ=[rs x,v]∧H2=H∧∀j<i,∀c,x.cps[j]?=some c→c∈lY.cps.toList) ⟨none,rfl,rfl,fun j hj=>absurd hj (by omega)⟩ ?_ ?_⟩
   ·rintro i c σ H2 hc ⟨v,rfl,rfl,hp⟩
    refine⟨_,rfl,_,_,rfl,rfl,_,rfl,?_⟩
    rw[LL]
    refine kq (fun h3=>?_) (fun h3=>?_)
    ·have h3:c∉lY.cps.toList:=by simpa[lY] using h3
     refine⟨_,rfl,by decide+kernel,⟨_,rfl,_,rfl,hf,_,rfl,hf,fun _=>qe fun g=>?_⟩⟩
     exact h3 (g.2.2 c (Vs (i:=i) (by rw[aa0];exact hc)))
    ·have h3:c∈lY.cps.toList:=by simpa[lY] using h3
     refine⟨_,rfl,rfl,fun j hj c' BL=>?_⟩
     by_cases e:j=i
     ·subst e;rw[hc] at BL;cases BL;exact h3
     ·exact hp j (by omega) c' BL
   ·rintro σ H2 ⟨v,rfl,rfl,hp⟩
    refine q ⟨by omega,by omega,fun c hc=>?_⟩
    obtain⟨j,hj,e⟩:=List.mem_iff_getElem.mp hc
    have ZC:j<x.cps.size:=by simpa using hj
    exact hp j ZC c (by rw[aaV ZC];simpa using e)
 ·have h1:¬((1:Int)≤(x.length:Int)):=by simpa using h1
  refine⟨_,rfl,?_⟩
  refine⟨_,rfl,by decide+kernel,⟨_,rfl,M8,_,rfl,by decide+kernel,⟨_,rfl,by decide+kernel,⟨_,rfl,_,rfl,hf,_,rfl,hf,fun _=>qe fun g=>?_⟩⟩⟩⟩
  have:=g.1;omega
def HS(A:Ad):Sp:=fun vs H Q _=>∃(d:Addr)(D:Dk)(W:Addr→Prop),vs=[.ref d]∧ig A H d D W∧∀p,H p=none→Q (.ref p) (upd H p (.lst (gi D.names)))
theorem FL(T:Txt mg)(O:Ok K mg A):ij P w K mg base l5 1 A.rX A.rY ["self"] (HS A):=by
 refine O.qz.f.p_ yB fun jm A0 outer s H vs Q E hr h=>?_
 obtain⟨d,D,W,rfl,⟨π,x⟩,q⟩:=h
 refine⟨_,(f_ (gR (sS (zp rfl) (by rfl) T.rQ abe (a_ (gC (pv 0) rfl) d_)))),?_⟩
 refine⟨_,rfl,d,A.gr,π.dx,_,_,rfl,x.hd,O.gE,O.iO,n_ _ _ _,π.m,_,rfl,x.hm,fun p sM=>?_⟩
 rw[FJ x.km]
 exact q p sM
def Me(A:Ad):Sp:=fun vs H Q E=>∃(d:Addr)(D:Dk)(W:Addr→Prop)(s:Str),vs=[.ref d,.str s]∧ig A H d D W∧jV s∧(s∈D.stores→Q .jl H)∧(s∉D.stores→E (.ref A.iQ) none H)
theorem jS(T:Txt mg)(O:Ok K mg A):ij P w K mg base (tI P w) 1 A.nZ A.n1 ["self","store"] (Me A):=by
 refine O.iR.f.ra tw fun jm A0 outer s H vs Q E hr h=>?_
 obtain⟨d,D,W,st,rfl,⟨π,x⟩,hf,q,qe⟩:=h
 refine⟨_,(f_ (ir (jv (k9 (by exact iV hr) (pv 1) (gC (pv 0) rfl))) (f_ (j5 bx O.HI (by rfl) (lC (iq i6 (iq (mL (pv 1)) nJ))))) g_)),?_⟩
 refine⟨_,rfl,_,rfl,d,A.gr,π.dx,_,_,rfl,x.hd,O.gE,O.iw,kS _ _ _,π.h,_,rfl,i7.k (k:=sk st) x.hh,_,rfl,?_⟩
 rw[kc x.kh]
 by_cases hs:st∈D.stores
 ·rw[Vy hs]
  exact q hs
 ·rw[aab hs]
  exact l6 ⟨_,rfl,by decide+kernel,⟨_,rfl,_,rfl,hf.1,_,rfl,hf.1,fun _=>qe hs⟩⟩
def OR(A:Ad):Sp:=fun vs H Q E=>∃(d:Addr)(D:Dk)(W:Addr→Prop)(s:Str),vs=[.ref d,.str s]∧ig A H d D W∧jV s∧(s∈D.names→Q .jl H)∧(s∉D.names→E (.ref A.jR) none H)
theorem A1(T:Txt mg)(O:Ok K mg A):ij P w K mg base (tI P w) 1 A.oO A.oP ["self","patch"] (OR A):=by
 refine O.q0.f.ra ug fun jm A0 outer s H vs Q E hr h=>?_
 obtain⟨d,D,W,st,rfl,⟨π,x⟩,hf,q,qe⟩:=h
 refine⟨_,(f_ (ir (jv (k9 (by exact iV hr) (pv 1) (gC (pv 0) rfl))) (f_ (j5 bx O.BC (by rfl) (lC (iq i6 (iq (mL (pv 1)) nJ))))) g_)),?_⟩
 refine⟨_,rfl,_,rfl,d,A.gr,π.dx,_,_,rfl,x.hd,O.gE,O.iO,n_ _ _ _,π.m,_,rfl,i7.k (k:=sk st) x.hm,_,rfl,?_⟩
 rw[kc x.km]
 by_cases hs:st∈D.names
 ·rw[Vy hs]
  exact q hs
 ·rw[aab hs]
  exact l6 ⟨_,rfl,by decide+kernel,⟨_,rfl,_,rfl,hf.1,_,rfl,hf.1,fun _=>qe hs⟩⟩
def OS(A:Ad):Sp:=fun vs H Q E=>∃(d:Addr)(D:Dk)(W:Addr→Prop)(s x:Str),vs=[.ref d,.str s,.str x]∧ig A H d D W∧jV s∧jV x∧s∈D.stores∧(x∈D.held s→Q .jl H)∧(x∉D.held s→E (.ref A.jR) none H)
theorem pd(T:Txt mg)(O:Ok K mg A):ij P w K mg base (tI P w) 1 A.oQ A.oR ["self","store","patch"] (OS A):=by
 refine O.kY.f.ra uh fun jm A0 outer s H vs Q E hr h=>?_
 obtain⟨d,D,W,st,y,rfl,⟨π,x⟩,hf,Ge,hs,q,qe⟩:=h
 obtain⟨v1,_,_,_,_,kv,v2,v3⟩:=x.vh st hs
 refine⟨_,(f_ (ir (jv (k9 (by exact iV hr) (pv 2) (zt hr (gC (pv 0) rfl) (pv 1)))) (f_ (j5 bx O.BC (by rfl) (lC (iq i6 (iq (mL (pv 1)) (iq i6 (iq (mL (pv 2)) nJ))))))) g_)),?_⟩
 refine⟨_,rfl,_,rfl,d,A.gr,π.dx,_,_,rfl,x.hd,O.gE,O.iw,kS _ _ _,_,rfl,π.h,.ref (π.ha st),rfl,?_,π.ha st,_,rfl,i7.k (k:=sk y) v2,_,rfl,?_⟩
 ·have:=i7.k (k:=sk st) x.hh
  rw[v1] at this
  exact this
 ·rw[kc v3]
  by_cases hy:y∈D.held st
  ·rw[Vy hy]
   exact q hy
  ·rw[aab hy]
   refine l6 ?_
   exact⟨_,rfl,by decide+kernel,⟨_,rfl,_,rfl,hf.1,_,rfl,hf.1,⟨_,rfl,by decide+kernel,⟨_,rfl,_,rfl,Ge.1,_,rfl,Ge.1,fun _=>qe hy⟩⟩⟩⟩
def Ka(H:Hp)(v:V)(l:Ln):Prop:=∃t,v=.ref t∧H t=some (.tup [.str l.nm.1,.int l.nm.2,.str l.tx])
def Kb(H:Hp)(a:Addr)(row:List Ln):Prop:=∃vs,H a=some (.lst vs)∧Paired (Ka H) vs row
theorem Ka.same{H H':Hp}{v:V}{l:Ln}(x:Ka H v l)(s:gj H H'):Ka H' v l:=by obtain⟨t,e,h⟩:=x;exact⟨t,e,s _ _ h⟩
def RI(A:Ad):Sp:=fun vs H Q E=>∃(d:Addr)(D:Dk)(W:Addr→Prop)(s:Str),vs=[.ref d,.str s]∧ig A H d D W∧jV s∧uw D.made.length∧(s∉D.stores→E (.ref A.iQ) none H)∧(s∈D.stores→∀p,H p=none→Q (.ref p) (upd H p (.lst (gi (D.has s)))))
theorem CG(T:Txt mg)(O:Ok K mg A):ij P w K mg base (tI P w) 2 A.zK A.zL ["self","store"] (RI A):=by
 have ia:=@jS P w K mg base A T O
 refine O.ky.f.ra xC fun jm A0 outer s H vs Q E hr h=>?_
 obtain⟨d,D,W,st,rfl,X,hf,jI,qe,q⟩:=h
 obtain⟨π,x⟩:=id X
 have yK:D.made.length≤4000:=jI
 have sz:sizeLine=16777216:=aay
 refine⟨_,(de (gM (AJ bx (pv 0) O.gE O.iR ia hr (a_ (pv 1) d_)))
   (f_ (gR (Gy (wg zF (gb qp).names [2] rfl (B4 (gC (pv 0) rfl)) rfl (by decide+kernel) (fun _ _ _ _=>(iz (i:=2) xC.nd rfl (Or.inl rfl))) (fun _ _ _ _=>⟨_,nI (jv (oZ (by exact iV hr) (pv 2) (zt hr (gC (pv 0) rfl) (pv 1)))),by(try simp only [kD]);rfl⟩) (fun _ _ _ _=>AF (pv 2))))))),?_⟩
 refine K5 ?_;intro _
 refine⟨_,rfl,d,π.dx,_,rfl,x.hd,jx,_,rfl,d,D,W,st,rfl,X,hf,fun hs=>?_,fun hs=>qe hs⟩
 obtain⟨v1,_,sJ,_,_,kv,v2,v3⟩:=x.vh st hs
 refine⟨_,rfl,d,A.gr,π.dx,_,_,rfl,x.hd,O.gE,O.iO,n_ _ _ _,π.m,π.kM,rfl,x.hm,fun o uz=>?_⟩
 have Iw:=j_ x.km
 have Lb:D.names.length=D.made.length:=by unfold Dk.names;rw[So]
 have Qz:d≠π.m:=i4 x.hd x.hm (fun z=>by cases z)
 have f:∀{b u},H b=some u→b≠π.m→upd H π.m (.nc o (.dK π.kM)) b=some u:=fun{b u} e n=>by rw[e_ n];exact e
 refine GA (by omega) (fun i ys σ H3=>∃(v2:Option V)(zs:List Str),σ=[rr d,rs st,v2]∧H3=upd H π.m (.nc o (.dK π.kM))∧ys=gi zs∧zs=(D.names.take i).filter fun x=>x∈D.held st) ⟨none,[],rfl,rfl,rfl,rfl⟩ (fun i ys σ H3 ⟨_,zs,_,e,e2,e3⟩=>?_) ?_ ?_
 ·rw[e,e2,e3]
  refine⟨b_,?_⟩
  rw[So]
  exact aac (aaG _ _) (by rw[aaB];omega)
 ·rintro i k v ys σ H3 hi ⟨v0,zs,rfl,rfl,rfl,e3⟩
  obtain⟨y,hy,rfl⟩:=wX x.km hi
  refine⟨_,rfl,_,rfl,d,A.gr,π.dx,_,_,rfl,f x.hd Qz,O.gE,O.iw,kS _ _ _,_,rfl,π.h,.ref (π.ha st),rfl,?_,π.ha st,_,rfl,i7.k (k:=sk y) (f v2 sJ),_,rfl,?_⟩
  ·have:=i7.k (k:=sk st) (f x.hh x.mh.symm)
   rw[v1] at this
   exact this
  ·rw[kc v3,take_snoc hy,aaH]
   by_cases hm:y∈D.held st
   ·rw[Vy hm]
    refine l6 ⟨_,rfl,_,_,rfl,rfl,i8 _ _,?_⟩
    rw[e3,YK (by simpa using hm),aaY]
   ·rw[aab hm]
    refine jz ⟨_,_,rfl,rfl,rfl,?_⟩
    rw[e3,aag (by simpa using hm),aaY,aaJ]
 ·rintro ys σ H3 ⟨v0,zs,rfl,rfl,rfl,e3⟩ p sM
  rw[Iw,aak] at e3
  have Gd:p≠π.m:=fun z=>by rw[z,b_] at sM;cases sM
  have F_:H p=none:=by rw[e_ Gd] at sM;exact sM
  refine⟨π.m,o,_,by rw[e_ Gd.symm];exact b_,uz,?_⟩
  rw[B3 x.hm Gd]
  have:=q hs p F_
  unfold Dk.has at this
  rw[←e3] at this
  exact this
def RJ(A:Ad):Sp:=fun vs H Q E=>∃(d:Addr)(D:Dk)(W:Addr→Prop)(s:Str),vs=[.ref d,.str s]∧ig A H d D W∧jV s∧uw D.made.length∧(s∉D.stores→E (.ref A.iQ) none H)∧(s∈D.stores→∀p H',gj H H'→H p=none→yH A H' p (D.pG s)→Q (.ref p) H')
theorem A2(T:Txt mg)(O:Ok K mg A):ij P w K mg base (tI P w) 3 A.oM A.oN ["self","store"] (RJ A):=by
 have i_:=@CG P w K mg base A T O
 refine O.qZ.f.ra nX fun jm A0 outer s H vs Q E hr h=>?_
 obtain⟨d,D,W,st,rfl,X,hf,jI,qe,q⟩:=h
 obtain⟨π,x⟩:=id X
 have yK:D.made.length≤4000:=jI
 have sz:sizeLine=16777216:=aay
 have oh:(D.pG st).length≤D.made.length:=aaG _ _
 refine⟨_,(f_ (gR (xx oI (gb ki).names [2] rfl (ie (AJ bx (pv 0) O.gE O.ky i_ hr (a_ (pv 1) d_))) rfl (by decide+kernel) (fun _ _ _ _=>(iz (i:=2) nX.nd rfl (Or.inl rfl))) (fun _ _ _ _=>mK) (fun _ _ _ _=>AF (zt hr (gC (pv 0) rfl) (pv 2)))))),?_⟩
 refine⟨_,rfl,d,π.dx,_,rfl,x.hd,pb,_,rfl,d,D,W,st,rfl,X,hf,jI,fun hs=>qe hs,fun hs p sM=>?_⟩
 rw[Dk.GF]
 have s1:gj H (upd H p (.lst (gi ((D.pG st).map (·.nm))))):=(gj.refl H).new sM
 have Nl:(upd H p (.lst (gi ((D.pG st).map (·.nm))))) p=some (.lst (gi ((D.pG st).map (·.nm)))):=b_
 generalize upd H p (.lst (gi ((D.pG st).map (·.nm))))=H1 at s1 Nl
 let Jv:=fun(i:Nat) (ys:List V) (σ:St) (H3:Hp)=>∃(v2:Option V)(as:List Addr),σ=[rr d,rs st,v2]∧H3=H1∧ys=as.map V.ref∧Paired (oa A H) as ((D.pG st).take i)
 refine⟨p,rfl,⟨_,gF.of Nl⟩,jY (K:=K) (a:=p) (xs:=gi ((D.pG st).map (·.nm))) (by rw[So,So];omega) Jv
  ⟨none,[],rfl,rfl,rfl,.nil⟩ (fun i ys σ H3 _ ⟨_,as,_,e,e2,e3⟩=>?_) ?_ ?_⟩
 ·rw[e,e2]
  have:=aan e3
  rw[aaB] at this
  exact⟨gF.of Nl,by rw[So];omega⟩
 ·rintro i v ys σ H3 hx ⟨v2,as,rfl,rfl,rfl,e3⟩
  obtain⟨y,hy,rfl⟩:=jM hx
  rw[aae] at hy
  obtain⟨pt,Lc,rfl⟩:=Option.map_eq_some_iff.mp hy
  have A6:pt∈D.made:=(Inv.mx.mp (Vs Lc)).1
  obtain⟨a,z1,z2⟩:=x.vm pt A6
  refine⟨_,rfl,d,A.gr,π.dx,_,_,rfl,s1 _ _ x.hd,O.gE,O.iO,n_ _ _ _,_,rfl,π.m,.ref a,rfl,?_,?_⟩
  ·have:=i7.k (k:=sk pt.nm) (s1 _ _ x.hm)
   rw[z1] at this
   exact this
  ·refine⟨_,as++[a],rfl,rfl,by rw[aat];rfl,?_⟩
   rw[take_snoc Lc]
   exact iy e3 z2
 ·rintro ys σ H3 ⟨v2,as,rfl,rfl,rfl,e3⟩ r tF
  have e0:(gi ((D.pG st).map (·.nm))).length=(D.pG st).length:=by rw[So,So]
  rw[e0,aak] at e3
  have s2:=s1.new (o:=.lst (as.map V.ref)) tF
  exact q hs r _ s2 (s1.free tF) ⟨as,b_,Paired.kJ e3 fun _ _ z=>z.same s2⟩
def Mf(A:Ad):Sp:=fun vs H Q E=>∃(d:Addr)(D:Dk)(W:Addr→Prop)(s f:Str),vs=[.ref d,.str s,.str f]∧ig A H d D W∧jV s∧Small D.made∧Inv D∧(s∉D.stores→E (.ref A.iQ) none H)∧(s∈D.stores→∀p H',gj H H'→H p=none→FG A H' p (gO (D.pG s) f) (D.row s f)→Q (.ref p) H')
theorem oW(T:Txt mg)(O:Ok K mg A):ij P w K mg base (tI P w) 5 A.qV A.qW ["self","store","file"] (Mf A):=by
 have xj:=@AW P w K mg base A T O
 have vR:=@A2 P w K mg base A T O
 refine O.kR.f.ra wK fun jm A0 outer s H vs Q E hr h=>?_
 obtain⟨d,D,W,st,f,rfl,X,hf,sm,I,qe,q⟩:=h
 obtain⟨π,x⟩:=id X
 refine⟨_,(f_ (gR (uO O.LY xj (hr.mono (by decide)) (by rfl) O.LZ O.si.b .nil oy (a_ (AJ bx (pv 0) O.gE O.qZ vR hr (a_ (pv 1) d_)) (a_ (pv 2) d_))))),?_⟩
 refine⟨_,rfl,d,π.dx,_,rfl,x.hd,AZ,_,rfl,d,D,W,st,rfl,X,hf,sm.many,fun hs=>qe hs,fun hs a H1 s1 ha0 UH=>?_⟩
 refine⟨_,rfl,?_⟩
 intro p px np W9 nxp
 have s2:gj H1 (upd (upd H1 px (.own p)) p (.ins A.h_ px [])):=fun b o e=>by
  rw[e_ (gh e np),e_ (gh e W9)]
  exact e
 refine⟨p,px,a,D.pG st,f,rfl,b_,UH.same s2,sm.sub (Inv.yU st),I.nodup st f,I.closed hs f,I.Rn st f,fun H' k sg=>⟨rfl,?_⟩⟩
 exact q hs p H' (fun b o e=>k b o (s2 b o (s1 b o e)) (gh (s1 b o e) np)) (s1.free np) sg
theorem Kc{D:Dk}(I:Inv D)(s f:Str):∀l∈D.row s f,l.nm∈(gO (D.pG s) f).map (·.nm):=fun l hl=>aaa ((lF _ f).subset ((I.zA s f).subset hl))
def OT(A:Ad):Sp:=fun vs H Q E=>∃(d:Addr)(D:Dk)(W:Addr→Prop)(s f:Str),vs=[.ref d,.str s,.str f]∧ig A H d D W∧jV s∧Small D.made∧Inv D∧(s∉D.stores→E (.ref A.iQ) none H)∧(s∈D.stores→∀p H',gj H H'→H p=none→Kb H' p (D.row s f)→Q (.ref p) H')
theorem Kd(T:Txt mg)(O:Ok K mg A):ij P w K mg base (tI P w) 6 A.zO A.zP ["self","store","file"] (OT A):=by
 have ji:=@oW P w K mg base A T O
 refine O.zS.f.ra xE fun jm A0 outer s H vs Q E hr h=>?_
 obtain⟨d,D,W,st,f,rfl,X,hf,sm,I,qe,q⟩:=h
 obtain⟨π,x⟩:=id X
 have sz:sizeLine=16777216:=aay
 have E2:(D.row st f).length≤4000:=aac (I.uX st f) sm.iB
 refine⟨_,(f_ (gR (xx zH (gb qt).names [3] rfl (ie (gC (AJ bx (pv 0) O.gE O.kR ji hr (a_ (pv 1) (a_ (pv 2) d_))) rfl)) rfl (by decide+kernel) (fun _ _ _ _=>(iz (i:=3) xE.nd rfl (Or.inl rfl))) (fun _ _ _ _=>mK) (fun _ _ _ _=>AF (BX (a_ (jW oY (gC (pv 3) rfl) gg (fun _ _=>rfl)) (a_ (jW oY (gC (pv 3) rfl) gg (fun _ _=>rfl)) (a_ (gC (pv 3) rfl) d_)))))))),?_⟩
 refine⟨_,rfl,d,π.dx,_,rfl,x.hd,oV,_,rfl,_,rfl,d,D,W,st,f,rfl,X,hf,sm,I,fun hs=>qe hs,fun hs p H1 s1 sM ⟨px,ah,l,g1,g2,⟨as,g3,g4⟩⟩=>?_⟩
 have hlen:=aan g4
 let Jv:=fun(i:Nat) (ys:List V) (σ:St) (H4:Hp)=>∃(v3:Option V),σ=[rr d,rs st,rs f,v3]∧gj H1 H4∧Paired (Ka H4) ys ((D.row st f).take i)
 refine⟨p,A.h_,px,_,_,rfl,g1,O.j2,O.ip,lj ah l,l,rfl,⟨_,gF.of g3⟩,jY (K:=K) (a:=l) (xs:=as.map V.ref) (by rw[So];omega) Jv
  ⟨none,rfl,gj.refl _,.nil⟩ (by rintro _ _ _ _ _ ⟨_,_,e,e2⟩;exact⟨gF.of (e _ _ g3),by rw[aan e2,aaB];omega⟩) ?_ ?_⟩
 ·rintro i v ys σ H4 hx ⟨v3,rfl,s4,e2⟩
  obtain⟨b,hb,rfl⟩:=j3 hx
  obtain⟨ln,vQ,Qw,vn,vu,vl,k1,⟨nt,rfl,k2⟩,k3,k4⟩:=ix g4 hb
  refine⟨_,rfl,b,A.gJ,Qw,_,_,rfl,s4 _ _ k1,O.iM,O.gH,iZ,nt,_,_,_,rfl,rfl,rg.of (s4 _ _ k2),ic (j:=0) rfl rfl,?_⟩
  refine⟨_,rfl,b,A.gJ,Qw,_,_,rfl,s4 _ _ k1,O.iM,O.gH,iZ,nt,_,_,_,rfl,rfl,rg.of (s4 _ _ k2),ic (j:=1) rfl rfl,?_⟩
  refine⟨_,rfl,b,A.gJ,Qw,_,_,rfl,s4 _ _ k1,O.iM,O.jG,zT,L2.jI,fun t ht=>?_⟩
  have s5:=(gj.refl H4).new (o:=.tup [.str ln.nm.1,.int ln.nm.2,.str ln.tx]) ht
  refine⟨_,rfl,s4.trans s5,?_⟩
  rw[take_snoc vQ]
  exact iy (Paired.kJ e2 fun _ _ z=>z.same s5) ⟨t,rfl,b_⟩
 ·rintro ys σ H4 ⟨v3,rfl,s4,e2⟩ r tF
  rw[So,hlen,aak] at e2
  have s5:=(s1.trans s4).new (o:=.lst ys) tF
  exact q hs r _ s5 ((s1.trans s4).free tF) ⟨ys,b_,Paired.kJ e2 fun _ _ z=>z.same ((gj.refl H4).new tF)⟩
def RK(A:Ad):Sp:=fun vs H Q E=>∃(d:Addr)(D:Dk)(W:Addr→Prop)(s f:Str),vs=[.ref d,.str s,.str f]∧ig A H d D W∧jV s∧Small D.made∧Inv D∧(s∉D.stores→E (.ref A.iQ) none H)∧(s∈D.stores→∀p H' vs,gj H H'→H p=none→H' p=some (.lst vs)→i0 H' (D.wA s f) vs→Q (.ref p) H')
theorem yn(T:Txt mg)(O:Ok K mg A):ij P w K mg base (tI P w) 6 A.qT A.qU ["self","store","file"] (RK A):=by
 have ji:=@oW P w K mg base A T O
 have kP:=@sE P w K mg base A T O
 refine O.o6.f.ra wJ fun jm A0 outer s H vs Q E hr h=>?_
 obtain⟨d,D,W,st,f,rfl,X,hf,sm,I,qe,q⟩:=h
 obtain⟨π,x⟩:=id X
 have E2:(D.row st f).length≤4000:=aac (I.uX st f) sm.iB
 refine⟨_,(f_ (gR (zb (AJ bx (pv 0) O.gE O.kR ji hr (a_ (pv 1) (a_ (pv 2) d_))) O.j2 O.jF.t kP (hr.mono (by decide)) O.jF.b .nil oy))),?_⟩
 refine⟨_,rfl,d,π.dx,_,rfl,x.hd,oV,_,rfl,_,rfl,d,D,W,st,f,rfl,X,hf,sm,I,fun hs=>qe hs,fun hs p H1 s1 sM sg=>?_⟩
 obtain⟨px,ah,l,g1,g2,g3⟩:=id sg
 refine⟨p,px,_,rfl,g1,J4 ah l,p,_,_,rfl,sg,Kc I st f,E2,fun r H2 vs s2 tF CV E3=>?_⟩
 exact q hs r H2 vs (s1.trans s2) (s1.free tF) CV E3
end
theorem sG{xs ys:List Str}(nd:xs.Nodup)(h:∀x∈xs,x∈ys):xs.length≤ys.length:=by
 have:=len_sub (xs:=xs.map fun k=>((k,0):Nm)) (ys:=ys.map fun k=>(k,0)) (List.pairwise_map.mpr (nd.imp fun h z=>h (aa2 Prod.fst z))) fun x hx=>by
  obtain⟨k,hk,rfl⟩:=List.mem_map.mp hx
  exact aaa (h k hk)
 rwa [So,So] at this
section
variable{A:Ad}{H:Hp}{x:Addr}{o:HO}{kv:List (Key×V)}
theorem mY.dk{a:Addr}{l:Ln}(h:mY A H a l)(hx:H x=some (.dK kv)):mY A (L2.upd H x o) a l:=mY.upd h hx (fun _ z=>by cases z) (fun _ _ _ z=>by cases z)
theorem qB.dk{a:Addr}{ls:List Ln}(h:qB A H a ls)(hx:H x=some (.dK kv)):qB A (L2.upd H x o) a ls:=by
 obtain⟨as,h1,h2⟩:=h
 exact⟨as,by rw[e_ (i4 h1 hx (fun z=>by cases z))];exact h1,Paired.kJ h2 fun _ _ z=>z.dk hx⟩
theorem zU.dk{a:Addr}{ns:List Nm}(h:zU H a ns)(hx:H x=some (.dK kv)):zU (L2.upd H x o) a ns:=by
 obtain⟨vs,h1,h2⟩:=h
 exact⟨vs,by rw[e_ (i4 h1 hx (fun z=>by cases z))];exact h1,Paired.kJ h2 fun _ _ z=>z.upd hx (fun _ z=>by cases z)⟩
theorem oa.dk{a:Addr}{p:Pt}(h:oa A H a p)(hx:H x=some (.dK kv)):oa A (L2.upd H x o) a p:=by
 obtain⟨dx,vf,pu,cu,vo,h0,h1,h2,h3,h4⟩:=h
 exact⟨dx,vf,pu,cu,vo,by rw[e_ (i4 h0 hx (fun z=>by cases z))];exact h0,h1,h2.dk hx,h3.dk hx,h4⟩
end
noncomputable def Ex(l:List Str)(m:Str):List Str:=if m∈l then l else l++[m]
theorem Ey{l:List Str}{m x:Str}:x∈Ex l m↔x∈l∨x=m:=by
 unfold Ex
 split
 ·rename_i h
  exact⟨.inl,fun z=>z.elim id fun z=>z▸h⟩
 ·simp
theorem GO{l:List Str}{m:Str}(h:l.Nodup):(Ex l m).Nodup:=by
 unfold Ex
 split
 ·exact h
 ·rename_i hm
  rw[aaZ]
  exact⟨h,by simp,fun a ha b hb z=>hm (by rw[List.mem_singleton.mp hb] at z;exact z▸ha)⟩
theorem BG{dk:List (Key×V)}{l:List Str}(h:dk.map (·.1)=l.map sk)(m:Str)(v:V):(putK dk (sk m) v).map (·.1)=(Ex l m).map sk:=by
 rw[p7,h]
 unfold Ex
 by_cases e:m∈l
 ·rw[aaq (z8.mpr e),aaq e]
 ·rw[aal (fun z=>e (z8.mp z)),aal e,aat];rfl
theorem BH:∀(more:List (Key×V))(dk:List (Key×V))(l r:List Str),dk.map (·.1)=l.map sk→more.map (·.1)=r.map sk→l.Nodup→∃l':List Str,(putAll dk more).map (·.1)=l'.map sk∧l'.Nodup∧∀m,m∈l'↔m∈l∨m∈r
 | [],dk,l,r,h1,h2,nd=>by
  have:r=[]:=by cases r with|nil=>rfl|cons _ _=>cases h2
  subst this
  exact⟨l,h1,nd,fun m=>by simp⟩
 | p::t,dk,l,r,h1,h2,nd=>by
  cases r with
  | nil=>cases h2
  | cons x r=>
   rw[aaw,aaw] at h2
   injection h2 with e1 e2
   rw[rC,e1]
   obtain⟨l',z1,z2,z3⟩:=BH t (putK dk (sk x) p.2) (Ex l x) r (BG h1 x _) e2 (GO nd)
   refine⟨l',z1,z2,fun m=>?_⟩
   rw[z3 m,Ey,Wg,or_assoc]
theorem FN{kvs:List (Key×V)}{l:List Str}{x:Str}(h:kvs.map (·.1)=l.map sk):(jP kvs (sk x)).map (·.1)=(l.filter fun y=>y≠x).map sk:=by
 induction kvs generalizing l with
 | nil=>
  cases l with
  | nil=>rfl
  | cons _ _=>cases h
 | cons p r ih=>
  cases l with
  | nil=>cases h
  | cons y t=>
   rw[aaw,aaw] at h
   injection h with e1 e2
   by_cases e:y=x
   ·rw[wb (by rw[e1,e]),ih e2,aag (by simpa using e)]
   ·rw[wc (by rw[e1];exact fun z=>e (aci z)),YK (by simpa using e),aaw,aaw,ih e2,e1]
noncomputable def j6(D:Dk)(s:Str)(l:List Str):Dk:=⟨D.made,D.iC,D.stores,fun t=>if t=s then l else D.held t⟩
theorem M7.j6{A:Ad}{H:Hp}{d:Addr}{D:Dk}{W:Addr→Prop}{π:Dp}{s:Str}{l:List Str}{kv:List (Key×V)}(x:M7 A H d D W π)(hs:s∈D.stores)(hk:kv.map (·.1)=l.map sk):M7 A (upd H (π.ha s) (.dK kv)) d (PK.j6 D s l) W π:=by
 obtain⟨v1,v2,v3,v4,v5,W_,v6,v7⟩:=x.vh s hs
 exact{
  hd:=by rw[e_ (i4 x.hd v6 (fun z=>by cases z))];exact x.hd
  hm:=by rw[e_ v3.symm];exact x.hm
  hn:=by rw[e_ v4.symm];exact x.hn
  hh:=by rw[e_ v5.symm];exact x.hh
  mn:=x.mn
  mh:=x.mh
  nh:=x.nh
  wm:=x.wm
  wn:=x.wn
  wh:=x.wh
  km:=x.km
  vm:=fun p hp=>by obtain⟨a,h1,h2⟩:=x.vm p hp;exact⟨a,h1,h2.dk v6⟩
  kn:=x.kn
  vn:=fun y hy=>by
   obtain⟨a,kv,l,h1,h2,h3,h4⟩:=x.vn y hy
   exact⟨a,kv,l,h1,h2,by rw[e_ (fun(z:a=π.ha s)=>h2 (by rw[z];exact v2))];exact h3,h4⟩
  kh:=x.kh
  vh:=fun t ht=>by
   obtain⟨h1,h2,h3,h4,h5,kv,h6,h7⟩:=x.vh t ht
   refine⟨h1,h2,h3,h4,h5,?_⟩
   show ∃kv:List (Key×V),_∧kv.map (·.1)=(if t=s then l else D.held t).map sk
   by_cases e:t=s
   ·subst e
    rw[aaq rfl]
    exact⟨_,b_,hk⟩
   ·rw[aal e]
    exact⟨kv,by rw[e_ (fun z=>e (x.inj t ht s hs z))];exact h6,h7⟩
  inj:=x.inj
  dk:=fun b hb=>by
   by_cases e:b=π.ha s
   ·rw[e];exact⟨_,b_⟩
   ·obtain⟨kv,h⟩:=x.dk b hb;exact⟨kv,by rw[e_ e];exact h⟩}
section
variable{P:Program}{w:World}{K:Qqy}{mg:Qqx}{base:Heap}{A:Ad}
def Mg(A:Ad):Sp:=fun vs H Q E=>∃(d:Addr)(D:Dk)(W:Addr→Prop)(s:Str),vs=[.ref d,.str s]∧ig A H d D W∧jV s∧D.stores.length<1000∧(¬Good s→E (.ref A.jA) none H)∧(Good s→s∈D.stores→E (.ref A.ju) none H)∧
 (Good s→s∉D.stores→∀H' W',ig A H' d (D.begin s) W'→lZ W H H'→(∀b,W' b→W b∨H b=none)→Q .jl H')
theorem Ez(T:Txt mg)(O:Ok K mg A):ij P w K mg base (tI P w) 2 A.vq A.vt ["self","store"] (Mg A):=by
 have qG:=@tW P w K mg base A T O
 refine O.ur.f.ra AL fun jm A0 outer s H vs Q E hr h=>?_
 obtain⟨d,D,W,st,rfl,X,hf,hlen,q1,q2,q3⟩:=h
 obtain⟨π,x⟩:=id X
 have sz:sizeLine=16777216:=aay
 refine⟨_,(de (gM (Vw bx O.uq qG hr (a_ (pv 1) d_)))
   (de (ir (jv (oZ (by exact iV hr) (pv 1) (gC (pv 0) rfl))) (f_ (j5 bx O.yl (by rfl) (lC (iq i6 (iq (mL (pv 1)) (iq i6 nJ)))))) g_)
   (f_ (jy (by exact iV hr) (gC (pv 0) rfl) (pv 1) nH rfl)))),?_⟩
 refine DO ?_;intro _ _
 refine⟨_,rfl,st,rfl,hf,fun g=>?_,fun ng=>q1 ng⟩
 refine⟨_,rfl,_,rfl,d,A.gr,π.dx,_,_,rfl,x.hd,O.gE,O.iw,kS _ _ _,π.h,_,rfl,i7.k (k:=sk st) x.hh,_,rfl,?_⟩
 rw[kc x.kh]
 by_cases hs:st∈D.stores
 ·rw[Vy hs]
  refine l6 ⟨_,rfl,by decide+kernel,⟨_,rfl,_,rfl,hf.1,_,rfl,hf.1,⟨_,rfl,by decide+kernel,fun _=>q2 g hs⟩⟩⟩
 ·rw[aab hs]
  refine jz ?_
  intro p sM
  have fr:∀{b o},H b=some o→b≠p:=fun e=>gh e sM
  have MH:(upd H p (.dK [])) π.h=some (.dK π.kH):=by rw[e_ (fr x.hh)];exact x.hh
  have Iw:=j_ x.kh
  refine⟨_,rfl,d,A.gr,π.dx,_,_,rfl,by rw[e_ (fr x.hd)];exact x.hd,O.gE,O.iw,kS _ _ _,_,rfl,π.h,_,rfl,nv.k (k:=sk st) MH (by omega),?_⟩
  have s1:gj H (upd H p (.dK [])):=(gj.refl H).new sM
  have up:∀{b o},H b=some o→b≠π.h→upd (upd H p (.dK [])) π.h (.dK (putK π.kH (sk st) (.ref p))) b=some o:=fun{b o} e n=>by rw[e_ n];exact s1 _ _ e
  have Xa:p≠π.h:=(fr x.hh).symm
  refine q3 g hs _ (fun b=>W b∨b=p) ⟨⟨π.dx,π.m,π.n,π.h,fun t=>if t=st then p else π.ha t,π.kM,π.kN,putK π.kH (sk st) (.ref p)⟩,?_⟩ (fun b o e nw=>?_) (fun b hb=>?_)
  ·exact{
    hd:=up x.hd (i4 x.hd x.hh (fun z=>by cases z))
    hm:=up x.hm x.mh
    hn:=up x.hn x.nh
    hh:=b_
    mn:=x.mn
    mh:=x.mh
    nh:=x.nh
    wm:=.inl x.wm
    wn:=.inl x.wn
    wh:=.inl x.wh
    km:=x.km
    vm:=fun q hq=>by obtain⟨a,h1,h2⟩:=x.vm q hq;exact⟨a,h1,(h2.same s1).dk MH⟩
    kn:=x.kn
    vn:=fun y hy=>by
     obtain⟨a,kv,l,h1,h2,h3,h4⟩:=x.vn y hy
     exact⟨a,kv,l,h1,fun z=>z.elim h2 (fr h3),up h3 (fun(z:a=π.h)=>h2 (by rw[z];exact x.wh)),h4⟩
    kh:=p8 x.kh hs _
    vh:=fun t ht=>by
     show iN (putK π.kH (sk st) (.ref p)) (sk t)=some (.ref (if t=st then p else π.ha t))∧(W (if t=st then p else π.ha t)∨(if t=st then p else π.ha t)=p)∧(if t=st then p else π.ha t)≠π.m∧(if t=st then p else π.ha t)≠π.n∧(if t=st then p else π.ha t)≠π.h∧∃kv:List (Key×V),(upd (upd H p (.dK [])) π.h (.dK (putK π.kH (sk st) (.ref p)))) (if t=st then p else π.ha t)=some (.dK kv)∧kv.map (·.1)=(if t=st then[] else D.held t).map sk
     rw[j4]
     by_cases e:t=st
     ·subst e
      rw[aaq rfl,aaq rfl,aaq rfl]
      exact⟨rfl,.inr rfl,(fr x.hm).symm,(fr x.hn).symm,Xa,[],by rw[e_ Xa];exact b_,rfl⟩
     ·have QA:t∈D.stores:=(Wl.mp ht).elim id fun z=>absurd (List.mem_singleton.mp z) e
      rw[aal (fun z=>e (aci z)),aal e,aal e]
      obtain⟨h1,h2,h3,h4,h5,kv,h6,h7⟩:=x.vh t QA
      exact⟨h1,.inl h2,h3,h4,h5,kv,up h6 h5,h7⟩
    inj:=fun t ht u hu e=>by
     have e:(if t=st then p else π.ha t)=(if u=st then p else π.ha u):=e
     by_cases e1:t=st
     ·by_cases e2:u=st
      ·rw[e1,e2]
      ·have Xb:u∈D.stores:=(Wl.mp hu).elim id fun z=>absurd (List.mem_singleton.mp z) e2
       rw[aaq e1,aal e2] at e
       obtain⟨_,_,_,_,_,kv,h6,_⟩:=x.vh u Xb
       exact absurd e.symm (fr h6)
     ·have QA:t∈D.stores:=(Wl.mp ht).elim id fun z=>absurd (List.mem_singleton.mp z) e1
      by_cases e2:u=st
      ·rw[aal e1,aaq e2] at e
       obtain⟨_,_,_,_,_,kv,h6,_⟩:=x.vh t QA
       exact absurd e (fr h6)
      ·have Xb:u∈D.stores:=(Wl.mp hu).elim id fun z=>absurd (List.mem_singleton.mp z) e2
       rw[aal e1,aal e2] at e
       exact x.inj t QA u Xb e
    dk:=fun b hb=>by
     by_cases e:b=π.h
     ·rw[e];exact⟨_,b_⟩
     ·rcases hb with hb|hb
      ·obtain⟨kv,h⟩:=x.dk b hb;exact⟨kv,up h e⟩
      ·rw[hb];exact⟨[],by rw[e_ Xa];exact b_⟩}
  ·exact up e (fun(z:b=π.h)=>nw (by rw[z];exact x.wh))
  ·rcases hb with hb|hb
   ·exact .inl hb
   ·rw[hb];exact .inr sM
def RL(A:Ad):Sp:=fun vs H Q E=>∃(d l:Addr)(D:Dk)(W:Addr→Prop)(x:Str)(fs:List Str),vs=[.ref d,.str x,.ref l]∧ig A H d D W∧H l=some (.lst (gi fs))∧fs.length≤1000∧(∀y∈x::fs,jV y)∧
 ((¬∀y∈x::fs,Good y)→∀H',gj H H'→E (.ref A.jA) none H')∧((∀y∈x::fs,Good y)→x∈D.names→∀H',gj H H'→E (.ref A.ju) none H')∧((∀y∈x::fs,Good y)→x∉D.names→∀H',gj H H'→Q .jl H')
theorem qE(T:Txt mg)(O:Ok K mg A):ij P w K mg base (tI P w) 2 A.pW A.pX ["self","patch","files"] (RL A):=by
 have qG:=@tW P w K mg base A T O
 refine O.lR.f.ra oJ fun jm A0 outer s H vs Q E hr h=>?_
 obtain⟨d,l,D,W,y,fs,rfl,X,hl,ZD,Ny,q1,q2,q3⟩:=h
 obtain⟨π,x⟩:=id X
 have sz:sizeLine=16777216:=aay
 refine⟨_,(de (iu Jg rfl (ie (gz nG (iU (a_ (pv 1) d_)) (pv 2))) (rf 3 oJ) (f_ (gM (Vw bx O.uq qG hr (a_ (pv 3) d_)))))
   (f_ (ir (jv (oZ (by exact iV hr) (pv 1) (gC (pv 0) rfl))) (f_ (j5 bx O.yl (by rfl) (lC (iq i6 (iq (mL (pv 1)) (iq i6 nJ)))))) g_))),?_⟩
 refine K5 ?_;intro _
 refine⟨_,rfl,L2.jI,fun a ha=>?_⟩
 have s1:gj H (upd H a (.lst [V.str y])):=(gj.refl H).new ha
 refine⟨_,rfl,a,l,_,_,rfl,rfl,b_,s1 _ _ hl,by rw[So];show 1+_≤_;omega,fun b hb=>?_⟩
 have s2:=s1.new (o:=.lst ([V.str y]++gi fs)) hb
 have PH:(upd (upd H a (.lst [V.str y])) b (.lst ([V.str y]++gi fs))) b=some (.lst (gi (y::fs))):=b_
 generalize upd (upd H a (.lst [V.str y])) b (.lst ([V.str y]++gi fs))=H2 at s2 PH
 let Jv:=fun(i:Nat) (σ:St) (H3:Hp)=>∃v,σ=[rr d,rs y,rr l,v]∧H3=H2∧∀z∈(y::fs).take i,Good z
 refine⟨b,rfl,⟨_,gF.of PH⟩,iH (K:=K) (a:=b) (xs:=gi (y::fs)) Jv ⟨none,rfl,rfl,fun z hz=>by rw[abx] at hz;cases hz⟩ (by rintro _ _ _ _ ⟨_,_,e,_⟩;rw[e];exact gF.of PH) ?_ ?_⟩
 ·rintro i v σ H3 hx ⟨v0,rfl,rfl,hg⟩
  obtain⟨z,hz,rfl⟩:=jM hx
  refine⟨_,rfl,z,rfl,Ny z (Vs hz),fun g=>?_,fun ng=>q1 (fun h=>ng (h z (Vs hz))) _ s2⟩
  refine⟨_,rfl,rfl,fun t ht=>?_⟩
  rw[take_snoc hz] at ht
  rcases Wl.mp ht with ht|ht
  ·exact hg t ht
  ·rw[List.mem_singleton.mp ht];exact g
 ·rintro σ H3 ⟨v0,rfl,rfl,hg⟩
  rw[So,aak] at hg
  refine⟨_,rfl,_,rfl,d,A.gr,π.dx,_,_,rfl,s2 _ _ x.hd,O.gE,O.iO,n_ _ _ _,π.m,_,rfl,i7.k (k:=sk y) (s2 _ _ x.hm),_,rfl,?_⟩
  rw[kc x.km]
  have hf:=Ny y aav
  by_cases hm:y∈D.names
  ·rw[Vy hm]
   exact l6 ⟨_,rfl,by decide+kernel,⟨_,rfl,_,rfl,hf.1,_,rfl,hf.1,⟨_,rfl,by decide+kernel,fun _=>q2 hg hm _ s2⟩⟩⟩
  ·rw[aab hm]
   exact q3 hg hm _ s2
def Mh(A:Ad):Sp:=fun vs H Q E=>∃(d:Addr)(D:Dk)(W:Addr→Prop)(s:Str),vs=[.ref d,.str s]∧ig A H d D W∧jV s∧uw D.made.length∧(s∉D.names→E (.ref A.jR) none H)∧(s∈D.names→∀p,H p=none→Q (.ref p) (upd H p (.lst (gi (D.jk s)))))
theorem Ke(T:Txt mg)(O:Ok K mg A):ij P w K mg base (tI P w) 2 A.vw A.vy ["self","patch"] (Mh A):=by
 have vS:=@A1 P w K mg base A T O
 refine O.zR.f.ra tO fun jm A0 outer s H vs Q E hr h=>?_
 obtain⟨d,D,W,st,rfl,X,hf,jI,qe,q⟩:=h
 obtain⟨π,x⟩:=id X
 have yK:D.made.length≤4000:=jI
 have sz:sizeLine=16777216:=aay
 refine⟨_,(de (gM (AJ bx (pv 0) O.gE O.q0 vS hr (a_ (pv 1) d_)))
   (f_ (gR (Gy (wg va (gb nz).names [2] rfl (B4 (gC (pv 0) rfl)) rfl (by decide+kernel) (fun _ _ _ _=>(iz (i:=2) tO.nd rfl (Or.inl rfl))) (fun _ _ _ _=>⟨_,nI (jv (oZ (by exact iV hr) (pv 2) (zt hr (gC (pv 0) rfl) (pv 1)))),by(try simp only [kD]);rfl⟩) (fun _ _ _ _=>AF (pv 2))))))),?_⟩
 refine K5 ?_;intro _
 refine⟨_,rfl,d,π.dx,_,rfl,x.hd,AY,_,rfl,d,D,W,st,rfl,X,hf,fun hs=>?_,fun hs=>qe hs⟩
 obtain⟨a,kv,l,v1,hnw,v2,v3,_,v4⟩:=x.vn st hs
 have sJ:a≠π.m:=fun z=>hnw (by rw[z];exact x.wm)
 refine⟨_,rfl,d,A.gr,π.dx,_,_,rfl,x.hd,O.gE,O.iO,n_ _ _ _,π.m,π.kM,rfl,x.hm,fun o uz=>?_⟩
 have Iw:=j_ x.km
 have Lb:D.names.length=D.made.length:=by unfold Dk.names;rw[So]
 have Qz:d≠π.m:=i4 x.hd x.hm (fun z=>by cases z)
 have f:∀{b u},H b=some u→b≠π.m→upd H π.m (.nc o (.dK π.kM)) b=some u:=fun{b u} e n=>by rw[e_ n];exact e
 refine GA (by omega) (fun i ys σ H3=>∃(v2:Option V)(zs:List Str),σ=[rr d,rs st,v2]∧H3=upd H π.m (.nc o (.dK π.kM))∧ys=gi zs∧zs=(D.names.take i).filter fun x=>x∈D.iC st) ⟨none,[],rfl,rfl,rfl,rfl⟩ (fun i ys σ H3 ⟨_,zs,_,e,e2,e3⟩=>?_) ?_ ?_
 ·rw[e,e2,e3]
  refine⟨b_,?_⟩
  rw[So]
  exact aac (aaG _ _) (by rw[aaB];omega)
 ·rintro i k v ys σ H3 hi ⟨v0,zs,rfl,rfl,rfl,e3⟩
  obtain⟨y,hy,rfl⟩:=wX x.km hi
  refine⟨_,rfl,_,rfl,d,A.gr,π.dx,_,_,rfl,f x.hd Qz,O.gE,O.jd,tf _ _ _,_,rfl,π.n,.ref a,rfl,?_,a,_,rfl,i7.k (k:=sk y) (f v2 sJ),_,rfl,?_⟩
  ·have:=i7.k (k:=sk st) (f x.hn x.mn.symm)
   rw[v1] at this
   exact this
  ·rw[kc v3,take_snoc hy,aaH]
   by_cases hm:y∈D.iC st
   ·rw[Vy ((v4 y).mpr hm)]
    refine l6 ⟨_,rfl,_,_,rfl,rfl,i8 _ _,?_⟩
    rw[e3,YK (by simpa using hm),aaY]
   ·rw[aab (fun z=>hm ((v4 y).mp z))]
    refine jz ⟨_,_,rfl,rfl,rfl,?_⟩
    rw[e3,aag (by simpa using hm),aaY,aaJ]
 ·rintro ys σ H3 ⟨v0,zs,rfl,rfl,rfl,e3⟩ p sM
  rw[Iw,aak] at e3
  have Gd:p≠π.m:=fun z=>by rw[z,b_] at sM;cases sM
  have F_:H p=none:=by rw[e_ Gd] at sM;exact sM
  refine⟨π.m,o,_,by rw[e_ Gd.symm];exact b_,uz,?_⟩
  rw[B3 x.hm Gd]
  have:=q hs p F_
  unfold Dk.jk at this
  rw[←e3] at this
  exact this
def OU(A:Ad):Sp:=fun vs H Q _=>∃(d a:Addr)(D:Dk)(W:Addr→Prop)(s:Str)(p:Pt),vs=[.ref d,.str s,.ref a]∧ig A H d D W∧Inv D∧uw D.made.length∧s∈D.stores∧oa A H a p∧p.nm∉D.names∧uw p.iB.length∧uw p.j0.length∧(∀y∈iK p,y∈D.names)∧
 ∀H',ig A H' d (D.keep s p) W→lZ W H H'→Q .jl H'
theorem CH(p:Pt):(iK p).length≤p.j0.length+2*p.iB.length+1:=by
 unfold iK
 rw[Vq,So]
 have h1:=aaG (fun n:Nm=>decide (n.1≠p.nm)) (named p)
 have h2:=BF p
 have h3:p.other.toList.length≤1:=by cases p.other<;>simp
 omega
theorem CI(T:Txt mg)(O:Ok K mg A):ij P w K mg base l5 3 A.xV A.xW ["self","store","patch"] (OU A):=by
 have tG:=@sF P w K mg base A T O
 refine O.sY.f.p_ qx fun jm A0 outer s H vs Q E hr h=>?_
 obtain⟨d,a,D,W,st,p,rfl,X,I,jI,hs,Lc,fresh,Ga,EM,xc,q⟩:=h
 obtain⟨π,x⟩:=id X
 have yK:D.made.length≤4000:=jI
 have Nw:p.iB.length≤4000:=Ga
 have KR:p.j0.length≤4000:=EM
 have sz:sizeLine=16777216:=aay
 have Lb:D.names.length=D.made.length:=by unfold Dk.names;rw[So]
 have Ql:=CH p
 refine⟨_,(de (lu 3 qx nH)
   (de (iu aap rfl (ie (nE O.oU tG hr (a_ (pv 2) d_))) (rf 4 qx) (de (jy (by exact iV hr) (pv 3) (pv 4) kI rfl)
   (f_ (gM (JA (pv 3) (zt hr (gC (pv 0) rfl) (pv 4)) ⟨rfl,rfl,rfl,rfl⟩)))))
   (de (jy (by exact iV hr) (gC (pv 0) rfl) (gC (pv 2) rfl) (pv 3) rfl)
   (de (jy (by exact iV hr) (gC (pv 0) rfl) (gC (pv 2) rfl) (pv 2) rfl)
   (f_ (jy (by exact iV hr) (zt hr (gC (pv 0) rfl) (pv 1)) (gC (pv 2) rfl) kI rfl)))))),?_⟩
 refine Qc ?_;intro _ _ _ _
 intro nd Pq
 have s1:gj H (upd H nd (.dK [])):=(gj.refl H).new Pq
 have PY:(upd H nd (.dK [])) nd=some (.dK []):=b_
 generalize upd H nd (.dK [])=H1 at s1 PY
 refine⟨_,rfl,a,p,rfl,Lc.same s1,Ga,EM,fun r H2 s2 tF CV=>?_⟩
 have BP:=s1.trans s2
 have hrn:r≠nd:=fun z=>by rw[z,PY] at tF;cases tF
 have UI:¬W nd:=X.jl Pq
 let Jv:=fun(i:Nat) (σ:St) (H3:Hp)=>∃(v:Option V)(kv:List (Key×V))(l:List Str),σ=[rr d,rs st,rr a,rr nd,v]∧(∀b o,H2 b=some o→b≠nd→H3 b=some o)∧H3 nd=some (.dK kv)∧kv.map (·.1)=l.map sk∧l.Nodup∧∀y,y∈l↔∃z∈(iK p).take i,y=z∨y∈D.iC z
 refine⟨r,rfl,⟨_,gF.of CV⟩,iH (K:=K) (a:=r) (xs:=gi (iK p)) Jv
  ⟨none,[],[],rfl,fun b o e _=>e,s2 _ _ PY,rfl,abg,fun y=>by simp⟩ (by rintro _ _ _ _ ⟨_,_,_,_,e,_⟩;exact gF.of (e _ _ CV hrn)) ?_ ?_⟩
 ·rintro i v σ H3 hx ⟨v0,kv,l,rfl,e1,e2,e3,e4,e5⟩
  obtain⟨z,hz,rfl⟩:=jM hx
  have hzm:z∈iK p:=Vs hz
  have Th:z∈D.names:=xc z hzm
  obtain⟨az,kz,lz,z1,z2,z3,z4,z5,z6⟩:=x.vn z Th
  have A7:∀y∈l,y∈D.names:=fun y hy=>by
   obtain⟨t,ht,h⟩:=(e5 y).mp hy
   have ZE:=xc t (List.mem_of_mem_take ht)
   rcases h with h|h
   ·rw[h];exact ZE
   ·exact I.yV ZE h
  have SN:=sG e4 A7
  have hlz:=sG z5 fun y hy=>I.yV Th ((z6 y).mp hy)
  have Iw:=j_ e3
  have hkz:=j_ z4
  have Zc:=js kv (sk z) (V.bl true)
  have Xc:az≠nd:=fun e=>by rw[e,Pq] at z3;cases z3
  refine⟨_,rfl,_,rfl,nd,_,rfl,nv.k (k:=sk z) e2 (by omega),?_⟩
  have up:∀{b o},H b=some o→upd H3 nd (.dK (putK kv (sk z) (V.bl true))) b=some o:=fun{b o} e=>by
   have n:b≠nd:=fun z=>by rw[z,Pq] at e;cases e
   rw[e_ n];exact e1 _ _ (BP _ _ e) n
  refine⟨_,rfl,nd,rfl,.inl ⟨_,.inl b_⟩,_,rfl,d,A.gr,π.dx,_,_,rfl,up x.hd,O.gE,O.jd,tf _ _ _,_,rfl,π.n,.ref az,rfl,?_,az,_,kz,rfl,b_,.inl (up z3),Xc.symm,by omega,?_⟩
  ·have:=i7.k (k:=sk z) (up x.hn)
   rw[z1] at this
   exact this
  ·obtain⟨l',w1,w2,w3⟩:=BH kz _ (Ex l z) lz (BG e3 z (V.bl true)) z4 (GO e4)
   refine⟨_,_,l',rfl,fun b o e n=>by rw[e_ n,e_ n];exact e1 b o e n,b_,w1,w2,fun y=>?_⟩
   rw[w3 y,Ey,e5 y,z6 y,take_snoc hz]
   constructor
   ·rintro((⟨t,ht,h⟩|h)|h)
    ·exact⟨t,YI _ ht,h⟩
    ·exact⟨z,by simp,.inl h⟩
    ·exact⟨z,by simp,.inr h⟩
   ·rintro⟨t,ht,h⟩
    rcases Wl.mp ht with ht|ht
    ·exact .inl (.inl ⟨t,ht,h⟩)
    ·rw[List.mem_singleton.mp ht] at h
     exact h.elim (fun h=>.inl (.inr h)) .inr
 ·rintro σ H3 ⟨v0,kv,l,rfl,e1,e2,e3,e4,e5⟩
  rw[So,aak] at e5
  have s3:gj H H3:=fun b o e=>e1 b o (BP _ _ e) (fun z=>by rw[z,Pq] at e;cases e)
  obtain⟨dx,vf,pu,cu,vo,g1,g2⟩:=Lc.same s3
  have y:=x.same s3
  have hnM:=j_ x.km
  have hnN:=j_ x.kn
  obtain⟨v1,v2,v3,v4,v5,W_,v6,v7⟩:=y.vh st hs
  have hkv0:=j_ v7
  have hhl:=sG (I.uU st hs) fun t ht=>(I.k_ st hs t ht).1
  refine⟨_,rfl,_,rfl,d,A.gr,π.dx,_,_,rfl,y.hd,O.gE,O.jd,tf _ _ _,_,rfl,a,A.gP,dx,_,_,rfl,g1,O.jq,O.iW,sx,π.n,_,rfl,nv.k (k:=sk p.nm) y.hn (by omega),?_⟩
  have f1:∀{b o},H3 b=some o→b≠π.n→upd H3 π.n (.dK (putK π.kN (sk p.nm) (.ref nd))) b=some o:=fun{b o} e n=>by rw[e_ n];exact e
  have K_:d≠π.n:=i4 y.hd y.hn (fun z=>by cases z)
  have ZF:a≠π.n:=i4 g1 y.hn (fun z=>by cases z)
  have Qz:d≠π.m:=i4 y.hd y.hm (fun z=>by cases z)
  have ham:a≠π.m:=i4 g1 y.hm (fun z=>by cases z)
  refine⟨_,rfl,_,rfl,d,A.gr,π.dx,_,_,rfl,f1 y.hd K_,O.gE,O.iO,n_ _ _ _,_,rfl,a,A.gP,dx,_,_,rfl,f1 g1 ZF,O.jq,O.iW,sx,π.m,_,rfl,nv.k (k:=sk p.nm) (f1 y.hm x.mn) (by omega),?_⟩
  have f2:∀{b o},H3 b=some o→b≠π.n→b≠π.m→upd (upd H3 π.n (.dK (putK π.kN (sk p.nm) (.ref nd)))) π.m (.dK (putK π.kM (sk p.nm) (.ref a))) b=some o:=fun{b o} e n m=>by rw[e_ m];exact f1 e n
  refine⟨_,rfl,d,A.gr,π.dx,_,_,rfl,f2 y.hd K_ Qz,O.gE,O.iw,kS _ _ _,_,rfl,π.h,.ref (π.ha st),rfl,?_,_,rfl,a,A.gP,dx,_,_,rfl,f2 g1 ZF ham,O.jq,O.iW,sx,π.ha st,_,rfl,nv.k (k:=sk p.nm) (f2 v6 v4 v3) (by omega),?_⟩
  ·have:=i7.k (k:=sk st) (f2 y.hh x.nh.symm x.mh.symm)
   rw[v1] at this
   exact this
  ·have hpn:p.nm∉D.held st:=fun z=>fresh (I.k_ st hs _ z).1
   have f3:∀{b o},H3 b=some o→b≠π.n→b≠π.m→b≠π.ha st→upd (upd (upd H3 π.n (.dK (putK π.kN (sk p.nm) (.ref nd)))) π.m (.dK (putK π.kM (sk p.nm) (.ref a)))) (π.ha st) (.dK (putK W_ (sk p.nm) (V.bl true))) b=some o:=fun{b o} e n m h=>by rw[e_ h];exact f2 e n m
   have f4:∀{b q},oa A H3 b q→oa A (upd (upd (upd H3 π.n (.dK (putK π.kN (sk p.nm) (.ref nd)))) π.m (.dK (putK π.kM (sk p.nm) (.ref a)))) (π.ha st) (.dK (putK W_ (sk p.nm) (V.bl true)))) b q:=fun z=>((z.dk y.hn).dk (f1 y.hm x.mn)).dk (f2 v6 v4 v3)
   have nW:∀{b},¬W b→b≠π.n∧b≠π.m∧b≠π.ha st:=fun{b} h=>⟨fun z=>h (by rw[z];exact x.wn),fun z=>h (by rw[z];exact x.wm),fun z=>h (by rw[z];exact v2)⟩
   refine q _ ⟨{π with kM:=putK π.kM (sk p.nm) (.ref a),kN:=putK π.kN (sk p.nm) (.ref nd)},?_⟩ fun b o e n=>f3 (s3 _ _ e) (nW n).1 (nW n).2.1 (nW n).2.2
   have Gf:(D.keep st p).names=D.names++[p.nm]:=by
    show(D.made++[p]).map (·.nm)=_
    rw[aat];rfl
   exact{
    hd:=f3 y.hd K_ Qz (i4 y.hd v6 (fun z=>by cases z))
    hm:=by
     show upd _ (π.ha st) _ π.m=_
     rw[e_ v3.symm];exact b_
    hn:=by
     show upd _ (π.ha st) _ π.n=_
     rw[e_ v4.symm,e_ x.mn.symm];exact b_
    hh:=f3 y.hh x.nh.symm x.mh.symm v5.symm
    mn:=x.mn
    mh:=x.mh
    nh:=x.nh
    wm:=x.wm
    wn:=x.wn
    wh:=x.wh
    km:=by rw[Gf];exact p8 x.km fresh _
    vm:=fun q hq=>by
     show ∃b,iN (putK π.kM (sk p.nm) (.ref a)) (sk q.nm)=some (.ref b)∧_
     rw[j4]
     rcases Wl.mp hq with hq|hq
     ·obtain⟨b,w1,w2⟩:=y.vm q hq
      have sJ:q.nm≠p.nm:=fun z=>fresh (by rw[←z];exact aaa hq)
      rw[aal (fun z=>sJ (aci z))]
      exact⟨b,w1,f4 w2⟩
     ·rw[List.mem_singleton.mp hq,aaq rfl]
      exact⟨a,rfl,f4 (Lc.same s3)⟩
    kn:=by rw[Gf];exact p8 x.kn fresh _
    vn:=fun t ht=>by
     rw[Gf] at ht
     show ∃(b:Addr)(kv:List (Key×V))(l:List Str),iN (putK π.kN (sk p.nm) (.ref nd)) (sk t)=some (.ref b)∧¬W b∧_∧kv.map (·.1)=l.map sk∧l.Nodup∧∀u,u∈l↔u∈(if t=p.nm then sW D.iC p else D.iC t)
     rw[j4]
     by_cases e:t=p.nm
     ·rw[aaq (by rw[e]),aaq e]
      refine⟨nd,kv,l,rfl,UI,f3 e2 (nW UI).1 (nW UI).2.1 (nW UI).2.2,e3,e4,fun u=>?_⟩
      rw[e5 u]
      unfold sW
      rw[aa9]
      exact⟨fun⟨z,h1,h2⟩=>⟨z,h1,Wg.mpr h2⟩,fun⟨z,h1,h2⟩=>⟨z,h1,Wg.mp h2⟩⟩
     ·rw[aal (fun z=>e (aci z)),aal e]
      have QA:t∈D.names:=(Wl.mp ht).elim id fun z=>absurd (List.mem_singleton.mp z) e
      obtain⟨b,Xd,l',w1,w2,w3,w4⟩:=y.vn t QA
      exact⟨b,Xd,l',w1,w2,f3 w3 (nW w2).1 (nW w2).2.1 (nW w2).2.2,w4⟩
    kh:=x.kh
    vh:=fun t ht=>by
     obtain⟨h1,h2,h3,h4,h5,Xd,h6,h7⟩:=y.vh t ht
     refine⟨h1,h2,h3,h4,h5,?_⟩
     show ∃kv:List (Key×V),_∧kv.map (·.1)=(if t=st then D.held st++[p.nm] else D.held t).map sk
     by_cases e:t=st
     ·subst e
      rw[aaq rfl]
      exact⟨_,b_,p8 v7 hpn _⟩
     ·rw[aal e]
      exact⟨Xd,f3 h6 h4 h3 (fun z=>e (x.inj t ht st hs z)),h7⟩
    inj:=x.inj
    dk:=fun b hb=>by
     by_cases h1:b=π.ha st
     ·rw[h1];exact⟨_,b_⟩
     ·by_cases h2:b=π.m
      ·rw[h2,e_ v3.symm];exact⟨_,b_⟩
      ·by_cases h3:b=π.n
       ·rw[h3,e_ v4.symm,e_ x.mn.symm];exact⟨_,b_⟩
       ·obtain⟨kv,h⟩:=y.dk b hb
        exact⟨kv,f3 h h3 h2 h1⟩}
theorem BI(D:Dk)(s x:Str):D.take s x=j6 D s (D.held s++D.mQ s x):=rfl
theorem HU(D:Dk)(s x:Str):D.drop s x=j6 D s ((D.held s).filter fun y=>y≠x):=rfl
theorem BJ(D:Dk)(s:Str)(l l':List Str):j6 (j6 D s l) s l'=j6 D s l':=by
 unfold j6
 congr 1
 funext t
 show(if t=s then l' else(if t=s then l else D.held t))=_
 by_cases e:t=s
 ·rw[aaq e,aaq e]
 ·rw[aal e,aal e,aal e]
theorem wY(D:Dk)(s:Str):j6 D s (D.held s)=D:=by
 cases D
 unfold j6
 congr 1
 funext t
 show(if t=s then _ else _)=_
 by_cases e:t=s
 ·rw[aaq e,e]
 ·rw[aal e]
def OV(A:Ad):Sp:=fun vs H Q E=>∃(d:Addr)(D:Dk)(W:Addr→Prop)(s c x:Str),vs=[.ref d,.str s,.str c,.str x]∧ig A H d D W∧Inv D∧uw D.made.length∧jV s∧jV c∧jV x∧
 (s∉D.stores→E (.ref A.iQ) none H)∧(s∈D.stores→c∉D.stores→E (.ref A.iQ) none H)∧(s∈D.stores→c∈D.stores→x∉D.held c→E (.ref A.jR) none H)∧
 (s∈D.stores→c∈D.stores→x∈D.held c→∀p H1 H',gj H H1→H1 p=none→H' p=some (.lst (gi (D.mQ s x)))→ig A H' d (D.take s x) W→lZ W (upd H1 p (.lst (gi (D.mQ s x)))) H'→Q (.ref p) H')
theorem FO{D:Dk}(I:Inv D){s x:Str}(hx:x∈D.names):(D.mQ s x).Nodup∧∀y∈D.mQ s x,y∈D.names∧y∉D.held s:=by
 refine⟨?_,fun y hy=>?_⟩
 ·refine ab4 aaU ?_
  rw[aaZ]
  refine⟨ab4 aaU I.nd,by simp,fun a ha b hb z=>?_⟩
  rw[List.mem_singleton.mp hb] at z
  subst z
  exact I.Br hx (aau (aam.mp ha).2)
 ·obtain⟨h1,h2⟩:=aam.mp hy
  refine⟨?_,aau h2⟩
  rcases Wl.mp h1 with h|h
  ·exact(aam.mp h).1
  ·rw[List.mem_singleton.mp h];exact hx
theorem GQ(T:Txt mg)(O:Ok K mg A):ij P w K mg base (tI P w) 3 A.xR A.xS ["self","store","source","patch"] (OV A):=by
 have ia:=@jS P w K mg base A T O
 have jH:=@pd P w K mg base A T O
 have CW:=@Ke P w K mg base A T O
 refine O.wQ.f.ra lK fun jm A0 outer s H vs Q E hr h=>?_
 obtain⟨d,D,W,st,c,y,rfl,X,I,jI,hf,ZG,Ge,q1,q2,q3,q4⟩:=h
 obtain⟨π,x⟩:=id X
 have yK:D.made.length≤4000:=jI
 have sz:sizeLine=16777216:=aay
 have Lb:D.names.length=D.made.length:=by unfold Dk.names;rw[So]
 refine⟨_,(de (gM (AJ bx (pv 0) O.gE O.iR ia hr (a_ (pv 1) d_)))
   (de (gM (AJ bx (pv 0) O.gE O.iR ia hr (a_ (pv 2) d_)))
   (de (gM (AJ bx (pv 0) O.gE O.kY jH hr (a_ (pv 2) (a_ (pv 3) d_))))
   (de (lu 4 lK (gz nG (AJ bx (pv 0) O.gE O.zR CW hr (a_ (pv 3) d_)) (iU (a_ (pv 3) d_))))
   (de (B2 (j:=5) xD (gb oE).names [6] lK.nd rfl rfl rfl (ie (pv 4)) rfl (by decide+kernel) (fun _ _ _ _=>(iz (i:=6) lK.nd rfl (Or.inl rfl))) (fun _ _ _ _=>⟨_,nI (jv (k9 (by exact iV hr) (pv 6) (zt hr (gC (pv 0) rfl) (pv 1)))),by(try simp only [kD]);rfl⟩) (fun _ _ _ _=>AF (pv 6)))
   (de (iu Jg rfl (ie (pv 5)) (rf 6 lK) (f_ (jy (by exact iV hr) (zt hr (gC (pv 0) rfl) (pv 1)) (pv 6) kI rfl)))
   (f_ (gR (pv 5))))))))),?_⟩
 refine YJ ?_;intro _ _ _ _ _ _
 refine⟨_,rfl,d,π.dx,_,rfl,x.hd,jx,_,rfl,d,D,W,st,rfl,X,hf,fun hs=>?_,fun hs=>q1 hs⟩
 refine⟨_,rfl,d,π.dx,_,rfl,x.hd,jx,_,rfl,d,D,W,c,rfl,X,ZG,fun hc=>?_,fun hc=>q2 hs hc⟩
 refine⟨_,rfl,d,π.dx,_,rfl,x.hd,o_,_,rfl,_,rfl,d,D,W,c,y,rfl,X,ZG,Ge,hc,fun hy=>?_,fun hy=>q3 hs hc hy⟩
 have ZH:y∈D.names:=(I.k_ c hc y hy).1
 have SN:(D.jk y).length≤D.names.length:=aaG _ _
 refine⟨_,rfl,d,π.dx,_,rfl,x.hd,J_,_,rfl,d,D,W,y,rfl,X,Ge,jI,fun h=>absurd ZH h,fun _ p sM=>?_⟩
 have s1:=(gj.refl H).new (o:=.lst (gi (D.jk y))) sM
 refine⟨_,rfl,L2.jI,fun b hb=>?_⟩
 have s2:=s1.new (o:=.lst [V.str y]) hb
 refine⟨p,b,_,_,rfl,rfl,il hb b_,b_,by rw[So];show _+1≤_;omega,fun wt Qu=>?_⟩
 have s3:=s2.new (o:=.lst (gi (D.jk y)++[V.str y])) Qu
 have Xe:(upd (upd (upd H p (.lst (gi (D.jk y)))) b (.lst [V.str y])) wt (.lst (gi (D.jk y)++[V.str y]))) wt=some (.lst (gi (D.jk y++[y]))):=by rw[b_,i8]
 generalize upd (upd (upd H p (.lst (gi (D.jk y)))) b (.lst [V.str y])) wt (.lst (gi (D.jk y)++[V.str y]))=H3 at s3 Xe
 have x3:=x.same s3
 obtain⟨v1,v2,v3,v4,v5,kv,v6,v7⟩:=x3.vh st hs
 refine⟨_,rfl,wt,rfl,⟨_,gF.of Xe⟩,jY (K:=K) (a:=wt) (xs:=gi (D.jk y++[y])) (by rw[So,Vq];show _+1≤_;omega) (fun i ys σ H4=>∃(v6:Option V)(zs:List Str),σ=[rr d,rs st,rs c,rs y,rr wt,none,v6]∧H4=H3∧ys=gi zs∧zs.length≤i∧zs=((D.jk y++[y]).take i).filter fun z=>z∉D.held st)
  ⟨none,[],rfl,rfl,rfl,Vx _,rfl⟩ (by rintro _ _ _ _ _ ⟨_,zs,_,e,e2,e3,_⟩;rw[e,e2];exact⟨gF.of Xe,by rw[So];exact e3⟩) ?_ ?_⟩
 ·rintro i v ys σ H4 hx ⟨Xf,zs,rfl,rfl,rfl,e3,e4⟩
  obtain⟨z,hz,rfl⟩:=jM hx
  refine⟨_,rfl,_,rfl,d,A.gr,π.dx,_,_,rfl,x3.hd,O.gE,O.iw,kS _ _ _,_,rfl,π.h,.ref (π.ha st),rfl,?_,π.ha st,_,rfl,i7.k (k:=sk z) v6,_,rfl,?_⟩
  ·have:=i7.k (k:=sk st) x3.hh
   rw[v1] at this
   exact this
  ·rw[kc v7,take_snoc hz,aaH]
   by_cases hm:z∈D.held st
   ·rw[Vy hm]
    refine jz ⟨_,_,rfl,rfl,rfl,by omega,?_⟩
    rw[e4,aag (by simpa using hm),aaY,aaJ]
   ·rw[aab hm]
    refine l6 ⟨_,rfl,_,_,rfl,rfl,i8 _ _,M4,?_⟩
    rw[e4,YK (by simpa using hm),aaY]
 ·rintro ys σ H4 ⟨Xf,zs,rfl,rfl,rfl,e3,e4⟩ cm K9
  have e0:(gi (D.jk y++[y])).length=(D.jk y++[y]).length:=by rw[So]
  rw[e0,aak] at e4
  have e4:zs=D.mQ st y:=e4
  subst e4
  obtain⟨ZI,ZJ⟩:=FO (s:=st) I ZH
  have Nn:=sG ZI fun t ht=>(ZJ t ht).1
  have s4:=s3.new (o:=.lst (gi (D.mQ st y))) K9
  have x4:=x.same s4
  have KS:(upd H4 cm (.lst (gi (D.mQ st y)))) cm=some (.lst (gi (D.mQ st y))):=b_
  have Ti:¬W cm:=fun z=>by obtain⟨kv,e⟩:=x4.dk cm z;rw[KS] at e;cases e
  have Tj:=fun H' a b c=>q4 hs hc hy cm H4 H' s3 K9 a b c
  generalize upd H4 cm (.lst (gi (D.mQ st y)))=H5 at s4 x4 KS Tj
  dsimp only [k7];refine Ht ?_;intro _
  let Jv:=fun(i:Nat) (σ:St) (H6:Hp)=>∃(v6:Option V)(π':Dp),σ=[rr d,rs st,rs c,rs y,rr wt,rr cm,v6]∧M7 A H6 d (j6 D st (D.held st++(D.mQ st y).take i)) W π'∧lZ W H5 H6
  refine⟨_,rfl,cm,rfl,⟨_,gF.of KS⟩,iH (K:=K) (a:=cm) (xs:=gi (D.mQ st y)) Jv
   ⟨none,π,rfl,by rw[abx,aaJ,wY];exact x4,fun b o e _=>e⟩ (by rintro _ _ _ _ ⟨_,_,_,_,e⟩;exact gF.of (e _ _ KS Ti)) ?_ ?_⟩
  ·rintro i v σ H6 hx ⟨Xf,π',rfl,x6,e6⟩
   obtain⟨z,hz,rfl⟩:=jM hx
   have hi:i<(D.mQ st y).length:=(List.getElem?_eq_some_iff.mp hz).1
   obtain⟨w1,w2,w3,w4,w5,ZK,w6,w7⟩:=x6.vh st hs
   have w7:ZK.map (·.1)=(D.held st++(D.mQ st y).take i).map sk:=by
    rw[w7]
    show(if st=st then _ else _:List Str).map sk=_
    rw[aaq rfl]
   have Iw:=j_ w7
   have hhl:=sG (I.uU st hs) fun t ht=>(I.k_ st hs t ht).1
   rw[Vq,aaB] at Iw
   refine⟨_,rfl,d,A.gr,π'.dx,_,_,rfl,x6.hd,O.gE,O.iw,kS _ _ _,_,rfl,π'.h,.ref (π'.ha st),rfl,?_,_,rfl,π'.ha st,_,rfl,nv.k (k:=sk z) w6 (by omega),?_⟩
   ·have:=i7.k (k:=sk st) x6.hh
    rw[w1] at this
    exact this
   ·have Tn:z∉D.held st++(D.mQ st y).take i:=fun hm=>by
     rcases Wl.mp hm with hm|hm
     ·exact(ZJ z (Vs hz)).2 hm
     ·obtain⟨j,hj⟩:=aaL.mp hm
      have Ik:j<i:=by have:=(List.getElem?_eq_some_iff.mp hj).1;rw[aaB] at this;omega
      rw[abN,aaq Ik] at hj
      have:=(abY (List.getElem?_eq_some_iff.mp hj).1 ZI).mp (hj.trans hz.symm)
      omega
    have x7:=x6.j6 (l:=D.held st++(D.mQ st y).take (i+1)) (kv:=putK ZK (sk z) (V.bl true)) hs (by rw[take_snoc hz,←aaK];exact p8 w7 Tn _)
    rw[BJ] at x7
    exact⟨_,π',rfl,x7,fun b o e n=>by rw[e_ (fun(z:b=π'.ha st)=>n (by rw[z];exact w2))];exact e6 b o e n⟩
  ·rintro σ H6 ⟨Xf,π',rfl,x6,e6⟩
   rw[So,aak,←BI] at x6
   exact⟨_,rfl,Tj H6 (e6 _ _ KS Ti) ⟨π',x6⟩ e6⟩
def OW(A:Ad):Sp:=fun vs H Q E=>∃(d:Addr)(D:Dk)(W:Addr→Prop)(s x:Str),vs=[.ref d,.str s,.str x]∧ig A H d D W∧Inv D∧uw D.made.length∧jV s∧jV x∧(∀z∈D.names,jV z)∧
 (s∉D.stores→E (.ref A.iQ) none H)∧(s∈D.stores→x∉D.held s→E (.ref A.jR) none H)∧(s∈D.stores→x∈D.held s→¬(∀z∈D.held s,x∉D.iC z)→E (.ref A.sX) none H)∧(s∈D.stores→x∈D.held s→(∀z∈D.held s,x∉D.iC z)→∀H',ig A H' d (D.drop s x) W→lZ W H H'→Q .jl H')
theorem Mi(T:Txt mg)(O:Ok K mg A):ij P w K mg base (tI P w) 2 A.xT A.xU ["self","store","patch"] (OW A):=by
 have ia:=@jS P w K mg base A T O
 have jH:=@pd P w K mg base A T O
 refine O.Bw.f.ra u_ fun jm A0 outer s H vs Q E hr h=>?_
 obtain⟨d,D,W,st,y,rfl,X,I,jI,hf,Ge,hfz,q1,q2,q3,q5⟩:=h
 obtain⟨π,x⟩:=id X
 have yK:D.made.length≤4000:=jI
 have sz:sizeLine=16777216:=aay
 refine⟨_,(de (gM (AJ bx (pv 0) O.gE O.iR ia hr (a_ (pv 1) d_)))
   (de (gM (AJ bx (pv 0) O.gE O.kY jH hr (a_ (pv 1) (a_ (pv 2) d_))))
   (de (yR (iu Jg rfl (B4 (zt hr (gC (pv 0) rfl) (pv 1))) (rf 3 u_) (f_ (ir (jv (oZ (by exact iV hr) (pv 2) (zt hr (gC (pv 0) rfl) (pv 3)))) (f_ (JE (j5 bx O.L1 (by rfl) (lC (iq (mL (pv 3)) (iq i6 (iq (mL (pv 2)) nJ))))))) g_))))
   (f_ (gM (IY (zt hr (gC (pv 0) rfl) (pv 1)) (pv 2) ⟨rfl,rfl,rfl,rfl⟩)))))),?_⟩
 refine M0 ?_;intro _ _ _
 refine⟨_,rfl,d,π.dx,_,rfl,x.hd,jx,_,rfl,d,D,W,st,rfl,X,hf,fun hs=>?_,fun hs=>q1 hs⟩
 refine⟨_,rfl,d,π.dx,_,rfl,x.hd,o_,_,rfl,_,rfl,d,D,W,st,y,rfl,X,hf,Ge,hs,fun hy=>?_,fun hy=>q2 hs hy⟩
 obtain⟨v1,v2,v3,v4,v5,kv,v6,v7⟩:=x.vh st hs
 have ZL:i7 H π.h (.str st) (some (.ref (π.ha st))):=by
  have:=i7.k (k:=sk st) x.hh
  rw[v1] at this
  exact this
 refine⟨_,rfl,d,A.gr,π.dx,_,_,rfl,x.hd,O.gE,O.iw,kS _ _ _,_,rfl,π.h,.ref (π.ha st),rfl,ZL,π.ha st,kv,rfl,v6,fun o uz=>?_⟩
 have f:∀{b u},H b=some u→b≠π.ha st→upd H (π.ha st) (.nc o (.dK kv)) b=some u:=fun{b u} e n=>by rw[e_ n];exact e
 have Qo:d≠π.ha st:=i4 x.hd v6 (fun z=>by cases z)
 let Jv:=fun(i:Nat) (σ:St) (H3:Hp)=>∃(v:Option V),σ=[rr d,rs st,rs y,v]∧H3=upd H (π.ha st) (.nc o (.dK kv))∧∀z∈(D.held st).take i,y∉D.iC z
 refine Jk (d:=π.ha st) (o:=o) (kvs:=kv) Jv ⟨none,rfl,rfl,fun z hz=>by rw[abx] at hz;cases hz⟩ (by rintro _ _ _ ⟨_,_,e,_⟩;rw[e];exact b_) ?_ ?_
 ·rintro i k v σ H3 hi ⟨v0,rfl,rfl,Ii⟩
  obtain⟨z,hz,rfl⟩:=wX v7 hi
  have ZM:z∈D.held st:=Vs hz
  have Th:=(I.k_ st hs z ZM).1
  obtain⟨a,ka,la,w1,w2,w3,w4,_,w6⟩:=x.vn z Th
  refine⟨_,rfl,_,rfl,d,A.gr,π.dx,_,_,rfl,f x.hd Qo,O.gE,O.jd,tf _ _ _,_,rfl,π.n,.ref a,rfl,?_,a,_,rfl,i7.k (k:=sk y) (f w3 (fun z=>w2 (by rw[z];exact v2))),_,rfl,?_⟩
  ·have:=i7.k (k:=sk z) (f x.hn v4.symm)
   rw[w1] at this
   exact this
  ·rw[kc w4]
   by_cases UJ:y∈D.iC z
   ·rw[Vy ((w6 y).mpr UJ)]
    refine l6 ⟨π.ha st,o,_,b_,uz,?_⟩
    rw[wu v6]
    have Uk:=(hfz z Th).1
    exact⟨_,rfl,_,rfl,Uk,_,rfl,Uk,⟨_,rfl,by decide+kernel,⟨_,rfl,_,rfl,Ge.1,_,rfl,Ge.1,fun _=>q3 hs hy fun h=>h z ZM UJ⟩⟩⟩
   ·rw[aab (fun h=>UJ ((w6 y).mp h))]
    refine jz ⟨_,rfl,rfl,fun t ht=>?_⟩
    rw[take_snoc hz] at ht
    rcases Wl.mp ht with ht|ht
    ·exact Ii t ht
    ·rw[List.mem_singleton.mp ht];exact UJ
 ·rintro σ H3 ⟨v0,rfl,rfl,CS⟩
  have Iw:=j_ v7
  rw[Iw,aak] at CS
  have q4:=q5 hs hy CS
  refine⟨π.ha st,o,_,b_,uz,?_⟩
  rw[wu v6]
  have CT:∃v,iN kv (sk y)=some v:=by
   have:=kc v7 y
   rw[Vy hy] at this
   exact Option.isSome_iff_exists.mp this
  obtain⟨vv,hvv⟩:=CT
  refine⟨_,rfl,d,A.gr,π.dx,_,_,rfl,x.hd,O.gE,O.iw,kS _ _ _,_,rfl,π.h,.ref (π.ha st),rfl,ZL,π.ha st,rfl,.inl ⟨_,.inl v6⟩,_,rfl,kv,sk y,vv,v6,rfl,hvv,?_⟩
  refine q4 _ ⟨π,?_⟩ fun b u e n=>by rw[e_ (fun(z:b=π.ha st)=>n (by rw[z];exact v2))];exact e
  rw[HU]
  exact x.j6 hs (FN v7)
theorem Aa(l:List Str):Paired (fun(x:Str) (v:V)=>v=.str x) l (gi l):=by
 induction l with
 | nil=>exact .nil
 | cons x r ih=>exact .cons rfl ih
theorem GR{n:Nat}{K:Qqy}{H:Hp}{a c:Addr}{x y:List Str}(h1:gF K H a (gi x))(h2:gF K H c (gi y)):pA K H (n+1) (.ref a) (.ref c) (decide (x=y)):=
 pA.LH (F:=fun(x:Str) (v:V)=>v=.str x) (fun p q u v hu hv=>by subst hu hv;exact pA.Jd p q) h1 h2 (Aa x) (Aa y)
def M9(n:Int):Int→List Int→Prop
 | _,[]=>True
 | l,p::r=>(l≤p∧p<n)∧M9 n (p+1) r
def Kf(A:Ad):Sp:=fun vs H Q E=>∃(a:Addr)(ps:List Int)(n:Int),vs=[.ref a,.int n]∧H a=some (.lst (ps.map V.int))∧(∀p∈ps,p.natAbs.log2<1920)∧(M9 n 0 ps→Q .jl H)∧(¬M9 n 0 ps→E (.ref A.n4) none H)
theorem yJ(T:Txt mg)(O:Ok K mg A):ij P w K mg base (tI P w) 1 A.rV A.rW ["places","size"] (Kf A):=by
 refine O.vE.f.ra kW fun jm A0 outer s H vs Q E hr h=>?_
 obtain⟨a,ps,n,rfl,ha,PZ,q,qe⟩:=h
 refine⟨_,(de (lu 2 kW gg)
   (f_ (iu Jg rfl (ie (pv 0)) (rf 3 kW) (de (ir (ke (Dw IG Gq (pv 2) (pv 3) (pv 1))) (f_ (j5 bx O.JR (by rfl) (lC (iq i6 (iq (Jo (pv 3)) (iq i6 nJ)))))) g_)
   (f_ (lu 2 kW (gz iI (pv 3) gg))))))),?_⟩
 refine K5 ?_;intro _
 let Jv:=fun(i:Nat) (σ:St) (H2:Hp)=>∃(l:Int)(v:Option V),σ=[rr a,ri n,ri l,v]∧H2=H∧(M9 n 0 ps↔M9 n l (ps.drop i))
 refine⟨_,rfl,a,rfl,⟨_,gF.of ha⟩,iH (K:=K) (a:=a) (xs:=ps.map V.int) Jv ⟨0,none,rfl,rfl,Iff.rfl⟩ (by rintro _ _ _ _ ⟨_,_,_,e,_⟩;rw[e];exact gF.of ha) ?_ ?_⟩
 ·rintro i v σ H2 hx ⟨l,v0,rfl,rfl,e⟩
  rw[aae] at hx
  obtain⟨p,hp,rfl⟩:=Option.map_eq_some_iff.mp hx
  have hi:i<ps.length:=(List.getElem?_eq_some_iff.mp hp).1
  have hd:ps.drop i=p::ps.drop (i+1):=by rw[aaP hi];congr 1;exact(List.getElem?_eq_some_iff.mp hp).2
  rw[hd] at e
  have hl:=PZ p (Vs hp)
  refine⟨_,rfl,_,rfl,_,_,rfl,rfl,_,rfl,?_⟩
  refine kq (fun h1=>?_) (fun h1=>?_)
  ·have h1:l≤p:=by simpa using h1
   refine⟨_,rfl,_,_,rfl,rfl,_,rfl,?_⟩
   refine kq (fun h2=>?_) (fun h2=>?_)
   ·have h2:¬p<n:=by simpa using h2
    refine⟨_,rfl,by decide+kernel,⟨_,rfl,_,rfl,hl,_,rfl,?_⟩⟩
    exact⟨aac (PyProof.Rows.int_text_len_1921 hl) (by decide),⟨_,rfl,by decide+kernel,fun _=>qe fun z=>h2 (e.mp z).1.2⟩⟩
   ·have h2:p<n:=by simpa using h2
    refine⟨_,rfl,_,_,rfl,rfl,_,_,rfl,rfl,e.trans ⟨fun z=>z.2,fun z=>⟨⟨h1,h2⟩,z⟩⟩⟩
  ·have h1:¬l≤p:=by simpa using h1
   refine⟨_,rfl,?_⟩
   refine⟨_,rfl,by decide+kernel,⟨_,rfl,_,rfl,hl,_,rfl,?_⟩⟩
   exact⟨aac (PyProof.Rows.int_text_len_1921 hl) (by decide),⟨_,rfl,by decide+kernel,fun _=>qe fun z=>h1 (e.mp z).1.1⟩⟩
 ·rintro σ H2 ⟨l,v0,rfl,rfl,e⟩
  rw[So,acg] at e
  exact q (e.mpr trivial)
def RM(A:Ad):Sp:=fun vs H Q E=>∃(d t:Addr)(D:Dk)(W:Addr→Prop)(s x f:Str)(texts:List Str),vs=[.ref d,.str s,.str x,.str f,.ref t]∧ig A H d D W∧Inv D∧Small D.made∧(D.made.flatMap (·.iB)).length≤1000∧jV s∧jV x∧jV f∧H t=some (.lst (gi texts))∧texts.length≤1000∧
 (s∉D.stores→E (.ref A.iQ) none H)∧
 (s∈D.stores→¬(Good x∧Good f)→∀H',gj H H'→E (.ref A.jA) none H')∧
 (s∈D.stores→Good x→Good f→x∈D.names→∀H',gj H H'→E (.ref A.ju) none H')∧
 (s∈D.stores→Good x→Good f→x∉D.names→D.wA s f≠[]→∀H',gj H H'→E (.ref A.lg) none H')∧
 (s∈D.stores→Good x→Good f→x∉D.names→D.wA s f=[]→(D.row s f).map (·.tx)=texts→∀H',gj H H'→E (.ref A.uk) none H')∧
 (s∈D.stores→Good x→Good f→x∉D.names→D.wA s f=[]→(D.row s f).map (·.tx)≠texts→∀H',ig A H' d (D.keep s (mG x f (D.row s f) texts)) W→lZ W H H'→Q .jl H')
theorem ll{x f:Str}:(∀y∈[x,f],Good y)↔Good x∧Good f:=by
 constructor
 ·exact fun h=>⟨h x (by simp),h f (by simp)⟩
 ·rintro⟨h1,h2⟩ y hy
  rcases Wg.mp hy with z|z
  ·rw[z];exact h1
  ·rw[List.mem_singleton.mp z];exact h2
theorem vL{D:Dk}(I:Inv D){s f x:Str}(hs:s∈D.stores)(texts:List Str):∀y∈iK (mG x f (D.row s f) texts),y∈D.names:=by
 intro y hy
 unfold iK at hy
 rcases Wl.mp hy with hy|hy
 ·obtain⟨m,hm,rfl⟩:=List.mem_map.mp hy
  obtain⟨hm,hn⟩:=aam.mp hm
  have hn:m.1≠x:=aau hn
  have fin:m∈(D.row s f).map (·.nm)→m.1∈D.names:=fun h=>by
   obtain⟨l,hl,rfl⟩:=List.mem_map.mp h
   obtain⟨p,h1,_,h3⟩:=I.uW hl
   have hp:=(Inv.mx.mp h1).1
   rw[rE (I.HG p hp) (aaa h3)]
   exact aaa hp
  rcases Wl.mp hm with hm|hm
  ·obtain⟨l,hl,rfl⟩:=List.mem_map.mp hm
   exact fin (aaa (aam.mp hl).1)
  ·obtain⟨l,hl,hm⟩:=aa9.mp hm
   have Pu:l.up=some m∨l.lo=some m:=by
    rcases Wl.mp hm with hm|hm
    ·exact .inl (by simpa using hm)
    ·exact .inr (by simpa using hm)
   rcases yT texts 0 0 none l hl m Pu with(z|⟨t,z⟩)|z
   ·cases z
   ·obtain⟨q,_,_,l',Il,rfl⟩:=B9 z
    exact fin (aaa (Vs Il))
   ·rw[uT] at z
    obtain⟨j,_,rfl⟩:=List.mem_map.mp z
    exact absurd rfl hn
 ·cases hy
theorem vM{x f:Str}{row:List Ln}{texts:List Str}:(mG x f row texts).iB.length≤texts.length∧(mG x f row texts).j0.length≤row.length:=by
 have rise:=sV (row.map (·.tx)) texts
 rw[So] at rise
 have h:=GD rise x
 refine⟨by show(ku x texts _).length≤_;omega,?_⟩
 show((row.filter _).map _).length≤_
 rw[So]
 exact aaG _ _
theorem HV(T:Txt mg)(O:Ok K mg A):ij P w K mg base (tI P w) 6 A.tR A.tS ["self","store","patch","file","texts"] (RM A):=by
 have ia:=@jS P w K mg base A T O
 have jU:=@qE P w K mg base A T O
 have ji:=@oW P w K mg base A T O
 have kP:=@sE P w K mg base A T O
 have xk:=@vK P w K mg base A T O
 have mI:=@CI P w K mg base A T O
 refine O.yk.f.ra nV fun jm A0 outer s H vs Q E hr h=>?_
 obtain⟨d,t,D,W,st,y,f,texts,rfl,X,I,sm,Xg,vV,Ge,P0,ht,ME,q1,q2,q3,q4,q5,q6⟩:=h
 obtain⟨π,x⟩:=id X
 have sz:sizeLine=16777216:=aay
 have E2:(D.row st f).length≤1000:=aac (I.uX st f) Xg
 refine⟨_,(de (gM (AJ bx (pv 0) O.gE O.iR ia hr (a_ (pv 1) d_)))
   (de (gM (AJ bx (pv 0) O.gE O.lR jU hr (a_ (pv 2) (a_ (iU (a_ (pv 3) d_)) d_))))
   (de (lu 5 nV (AJ bx (pv 0) O.gE O.kR ji hr (a_ (pv 1) (a_ (pv 3) d_))))
   (de (ir (uM (zb (pv 5) O.j2 O.jF.t kP (hr.mono (by decide)) O.jF.b .nil oy) (fun _=>rfl)) (f_ (j5 bx O.Eh (by rfl) (lC (iq i6 (iq (mL (pv 3)) (iq i6 nJ)))))) g_)
   (de (ir (ib (Jc 3 (by exact Vu hr)) (xx tN (gb my).names [6] rfl (ie (gC (pv 5) rfl)) rfl (by decide+kernel) (fun _ _ _ _=>(iz (i:=6) nV.nd rfl (Or.inl rfl))) (fun _ _ _ _=>mK) (fun _ _ _ _=>AF (gC (pv 6) rfl))) (pv 4) (iA _)) (f_ (j5 bx O.JS (by rfl) (lC (iq i6 (iq (mL (pv 3)) (iq i6 nJ)))))) g_)
   (f_ (gM (yx (pv 0) O.gE O.sY mI hr (a_ (pv 1) (a_ (nE O.sr xk hr (a_ (pv 2) (a_ (pv 3) (a_ (gC (pv 5) rfl) (a_ (pv 4) d_))))) d_)))))))))),?_⟩
 refine Rc ?_;intro _ _ _ _ _
 refine⟨_,rfl,d,π.dx,_,rfl,x.hd,jx,_,rfl,d,D,W,st,rfl,X,vV,fun hs=>?_,fun hs=>q1 hs⟩
 refine⟨_,rfl,d,π.dx,_,rfl,x.hd,qD,_,rfl,_,rfl,L2.jI,fun l hl=>?_⟩
 have s1:gj H (upd H l (.lst [V.str f])):=(gj.refl H).new hl
 refine⟨d,l,D,W,y,[f],rfl,X.same s1,b_,by show 1≤1000;decide,fun z hz=>?_,fun h H' s'=>q2 hs (fun g=>h (ll.mpr g)) H' (s1.trans s'),fun h hn H' s'=>q3 hs (ll.mp h).1 (ll.mp h).2 hn H' (s1.trans s'),fun h hn H2 s2=>?_⟩
 ·rcases Wg.mp hz with z|z
  ·rw[z];exact Ge
  ·rw[List.mem_singleton.mp z];exact P0
 obtain⟨gy,gf⟩:=ll.mp h
 have BP:=s1.trans s2
 have X2:=X.same BP
 refine⟨_,rfl,d,π.dx,_,rfl,BP _ _ x.hd,oV,_,rfl,_,rfl,d,D,W,st,f,rfl,X2,vV,sm,I,fun h=>absurd hs h,fun _ p H3 s3 sM sg=>?_⟩
 obtain⟨px,ah,ln,g1,g2,⟨as,g3,g4⟩⟩:=id sg
 have BQ:=BP.trans s3
 have hlen:=aan g4
 refine⟨_,rfl,p,px,_,rfl,g1,J4 ah ln,p,_,_,rfl,sg,Kc I st f,aac E2 (by decide),fun r H4 vs s4 tF CV E3=>?_⟩
 have A9:=BQ.trans s4
 have Nv:=aan E3
 by_cases hq:D.wA st f=[]
 case neg=>
  have Xh:vs≠[]:=fun z=>hq (by
   have e:(kQ (Ah (gO (D.pG st) f)) (D.row st f)).length=0:=by rw[Nv,z];rfl
   exact aaE.mp e)
  refine⟨true,.inl ⟨_,gF.of CV,by simpa using Xh⟩,l6 ?_⟩
  exact⟨_,rfl,by decide+kernel,⟨_,rfl,_,rfl,P0.1,_,rfl,P0.1,⟨_,rfl,by decide+kernel,fun _=>q4 hs gy gf hn hq _ A9⟩⟩⟩
 have Xh:vs=[]:=by
  have e:(kQ (Ah (gO (D.pG st) f)) (D.row st f)).length=0:=by rw[show kQ (Ah (gO (D.pG st) f)) (D.row st f)=[] from hq];rfl
  rw[Nv] at e
  exact aaE.mp e
 refine⟨false,.inl ⟨_,gF.of CV,by rw[Xh];rfl⟩,jz ?_⟩
 have ZN:=s4 _ _ g1
 have Xi:=s4 _ _ g3
 let Jv:=fun(i:Nat) (ys:List V) (σ:St) (H5:Hp)=>∃(v6:Option V),σ=[rr d,rs st,rs y,rs f,rr t,rr p,v6]∧H5=H4∧ys=gi (((D.row st f).take i).map (·.tx))
 refine⟨_,rfl,p,A.h_,px,_,_,rfl,ZN,O.j2,O.ip,lj ah ln,ln,rfl,⟨_,gF.of Xi⟩,jY (K:=K) (a:=ln) (xs:=as.map V.ref) (by rw[So];omega) Jv
  ⟨none,rfl,rfl,rfl⟩ (by rintro _ _ _ _ _ ⟨_,_,e,e2⟩;rw[e,e2];exact⟨gF.of Xi,by rw[So,So,aaB];omega⟩) ?_ ?_⟩
 ·rintro i v ys σ H5 hx ⟨v6,rfl,rfl,rfl⟩
  obtain⟨b,hb,rfl⟩:=j3 hx
  obtain⟨l2,KA,dx,vn,vu,vl,k1,k2,k3,k4⟩:=ix g4 hb
  refine⟨_,rfl,b,A.gJ,dx,_,_,rfl,s4 _ _ k1,O.iM,O.jG,zT,_,rfl,rfl,?_⟩
  rw[take_snoc KA,aat,i8]
  rfl
 ·rintro ys σ H5 ⟨v6,rfl,rfl,rfl⟩ o UB
  rw[So,hlen,aak]
  have s5:=A9.new (o:=.lst (gi ((D.row st f).map (·.tx)))) UB
  have ML:gj H5 (upd H5 o (.lst (gi ((D.row st f).map (·.tx))))):=(gj.refl H5).new UB
  refine⟨_,rfl,_,⟨o,t,rfl,rfl⟩,GR (gF.of b_) (gF.of (s5 _ _ ht)),_,rfl,?_⟩
  by_cases he:(D.row st f).map (·.tx)=texts
  ·rw[Vy he]
   refine l6 ?_
   exact⟨_,rfl,by decide+kernel,⟨_,rfl,_,rfl,P0.1,_,rfl,P0.1,⟨_,rfl,by decide+kernel,fun _=>q5 hs gy gf hn hq he _ s5⟩⟩⟩
  ·rw[aab he]
   refine jz ?_
   have X5:=X.same s5
   refine⟨_,rfl,d,π.dx,_,rfl,s5 _ _ x.hd,CD,_,rfl,_,rfl,_,rfl,_,rfl,p,A.h_,px,_,_,rfl,ML _ _ ZN,O.j2,O.ip,lj ah ln,_,rfl,y,f,ln,t,D.row st f,texts,rfl,⟨as,ML _ _ Xi,Paired.kJ g4 fun _ _ z=>(z.same s4).same ML⟩,s5 _ _ ht,E2,ME,fun pa H6 s6 hpa0 Xj=>?_⟩
   have To:=s5.trans s6
   obtain⟨cl1,cl2⟩:=vM (x:=y) (f:=f) (row:=D.row st f) (texts:=texts)
   refine⟨d,pa,D,W,st,_,rfl,X.same To,I,sm.many,hs,Xj,hn,aac cl1 (aac ME (by decide)),aac cl2 (aac E2 (by decide)),vL I hs texts,fun H7 X7 s7=>?_⟩
   exact q6 hs gy gf hn hq he H7 X7 fun b o e n=>s7 b o (To _ _ e) n
def OX(A:Ad):Sp:=fun vs H Q E=>∃(d:Addr)(D:Dk)(W:Addr→Prop)(s x o:Str),vs=[.ref d,.str s,.str x,.str o]∧ig A H d D W∧Inv D∧uw D.made.length∧jV s∧jV x∧jV o∧
 (s∉D.stores→E (.ref A.iQ) none H)∧(s∈D.stores→¬Good x→∀H',gj H H'→E (.ref A.jA) none H')∧(s∈D.stores→Good x→x∈D.names→∀H',gj H H'→E (.ref A.ju) none H')∧
 (s∈D.stores→Good x→x∉D.names→o∉D.held s→∀H',gj H H'→E (.ref A.jR) none H')∧
 (s∈D.stores→Good x→x∉D.names→o∈D.held s→∀H',ig A H' d (D.keep s ⟨x,none,[],[],some o⟩) W→lZ W H H'→Q .jl H')
theorem Ab{x:Str}:(∀y∈[x],Good y)↔Good x:=⟨fun h=>h x (by simp),fun h y hy=>by rw[List.mem_singleton.mp hy];exact h⟩
theorem Mj(T:Txt mg)(O:Ok K mg A):ij P w K mg base (tI P w) 4 A.xP A.xQ ["self","store","patch","other"] (OX A):=by
 have ia:=@jS P w K mg base A T O
 have jU:=@qE P w K mg base A T O
 have jH:=@pd P w K mg base A T O
 have jT:=@o9 P w K mg base A T O
 have mI:=@CI P w K mg base A T O
 refine O.Bv.f.ra Cf fun jm A0 outer s H vs Q E hr h=>?_
 obtain⟨d,D,W,st,y,ot,rfl,X,I,jI,vV,Ge,hfo,q1,q2,q3,q4,q5⟩:=h
 obtain⟨π,x⟩:=id X
 refine⟨_,(de (gM (AJ bx (pv 0) O.gE O.iR ia hr (a_ (pv 1) d_)))
   (de (gM (AJ bx (pv 0) O.gE O.lR jU hr (a_ (pv 2) (a_ (iU d_) d_))))
   (de (gM (AJ bx (pv 0) O.gE O.kY jH hr (a_ (pv 1) (a_ (pv 3) d_))))
   (f_ (gM (yx (pv 0) O.gE O.sY mI hr (a_ (pv 1) (a_ (uO O.Cq jT (hr.mono (by decide)) (by rfl) O.Cr O.lQ.b .nil oy (a_ (pv 2) (a_ t_ (a_ (iU d_) (a_ (iU d_) (a_ (pv 3) d_)))))) d_)))))))),?_⟩
 refine M0 ?_;intro _ _ _
 refine⟨_,rfl,d,π.dx,_,rfl,x.hd,jx,_,rfl,d,D,W,st,rfl,X,vV,fun hs=>?_,fun hs=>q1 hs⟩
 refine⟨_,rfl,d,π.dx,_,rfl,x.hd,qD,_,rfl,L2.jI,fun l hl=>?_⟩
 have s1:gj H (upd H l (.lst [])):=(gj.refl H).new hl
 refine⟨d,l,D,W,y,[],rfl,X.same s1,b_,by show 0≤1000;decide,fun z hz=>by rw[List.mem_singleton.mp hz];exact Ge,fun h H' s'=>q2 hs (fun g=>h (Ab.mpr g)) H' (s1.trans s'),fun h hn H' s'=>q3 hs (Ab.mp h) hn H' (s1.trans s'),fun h hn H2 s2=>?_⟩
 have gy:=Ab.mp h
 have BP:=s1.trans s2
 refine⟨_,rfl,d,π.dx,_,rfl,BP _ _ x.hd,o_,_,rfl,_,rfl,d,D,W,st,ot,rfl,X.same BP,vV,hfo,hs,fun ho=>?_,fun ho=>q4 hs gy hn ho _ BP⟩
 refine⟨_,rfl,d,π.dx,_,rfl,BP _ _ x.hd,CD,_,rfl,_,rfl,L2.jI,fun a ha=>⟨L2.jI,fun b hb=>⟨_,rfl,?_⟩⟩⟩
 have s3:=BP.new (o:=.lst []) ha
 have s4:=s3.new (o:=.lst []) hb
 intro o dx no PR WX
 refine⟨o,dx,_,_,_,_,_,rfl,b_,fun H5 r6 r7=>⟨rfl,?_⟩⟩
 have s5:gj (upd (upd H2 a (.lst [])) b (.lst [])) H5:=fun c u ec=>by
  rw[r6 c (gh ec no),e_ (gh ec no),e_ (gh ec PR)]
  exact ec
 have Iz:=s4.trans s5
 have pt:oa A H5 o ⟨y,none,[],[],some ot⟩:=⟨dx,_,a,b,.str ot,r7,rfl,⟨[],s5 _ _ (il hb b_),.nil⟩,⟨[],s5 _ _ b_,.nil⟩,rfl⟩
 refine⟨d,o,D,W,st,_,rfl,X.same Iz,I,jI,hs,pt,hn,aaI _,aaI _,fun z hz=>?_,fun H7 X7 s7=>?_⟩
 ·have:z=ot:=by simpa[iK,named] using hz
  rw[this];exact(I.k_ st hs ot ho).1
 ·exact q5 hs gy hn ho H7 X7 fun b o e n=>s7 b o (Iz _ _ e) n
def RN(A:Ad):Sp:=fun vs H Q E=>∃(d t:Addr)(D:Dk)(W:Addr→Prop)(s x f:Str)(ps:List Int),vs=[.ref d,.str s,.str x,.str f,.ref t]∧ig A H d D W∧Inv D∧Small D.made∧jV s∧jV x∧jV f∧H t=some (.lst (ps.map V.int))∧ps.length≤1000∧(∀p∈ps,p.natAbs.log2<1920)∧
 (s∉D.stores→E (.ref A.iQ) none H)∧
 (s∈D.stores→¬(Good x∧Good f)→∀H',gj H H'→E (.ref A.jA) none H')∧
 (s∈D.stores→Good x→Good f→x∈D.names→∀H',gj H H'→E (.ref A.ju) none H')∧
 (s∈D.stores→Good x→Good f→x∉D.names→¬M9 (D.row s f).length 0 ps→∀H',gj H H'→E (.ref A.n4) none H')∧
 (s∈D.stores→Good x→Good f→x∉D.names→ps=[]→∀H',gj H H'→E (.ref A.uk) none H')∧
 (s∈D.stores→Good x→Good f→x∉D.names→M9 (D.row s f).length 0 ps→ps≠[]→∀H',ig A H' d (D.keep s ⟨x,some f,[],ps.filterMap fun p=>((D.row s f)[p.toNat]?).map (·.nm),none⟩) W→lZ W H H'→Q .jl H')
theorem GS{n:Int}:∀{l:Int} {ps:List Int},0≤l→M9 n l ps→∀p∈ps,0≤p∧p<n
 | _,[],_,_,p,hp=>by cases hp
 | l,q::r,h0,h,p,hp=>by
  obtain⟨⟨h1,h2⟩,h3⟩:=h
  rcases Wg.mp hp with rfl|hp
  ·exact⟨by omega,h2⟩
  ·exact GS (by omega) h3 p hp
theorem OY(T:Txt mg)(O:Ok K mg A):ij P w K mg base (tI P w) 6 A.zM A.zN ["self","store","patch","file","places"] (RN A):=by
 have ia:=@jS P w K mg base A T O
 have jU:=@qE P w K mg base A T O
 have ji:=@oW P w K mg base A T O
 have Ak:=@yJ P w K mg base A T O
 have jT:=@o9 P w K mg base A T O
 have mI:=@CI P w K mg base A T O
 refine O.Eg.f.ra rO fun jm A0 outer s H vs Q E hr h=>?_
 obtain⟨d,t,D,W,st,y,f,ps,rfl,X,I,sm,vV,Ge,P0,ht,ME,PZ,q1,q2,q3,q4,q5,q6⟩:=h
 obtain⟨π,x⟩:=id X
 have sz:sizeLine=16777216:=aay
 have E2:(D.row st f).length≤4000:=aac (I.uX st f) sm.iB
 refine⟨_,(de (gM (AJ bx (pv 0) O.gE O.iR ia hr (a_ (pv 1) d_)))
   (de (gM (AJ bx (pv 0) O.gE O.lR jU hr (a_ (pv 2) (a_ (iU (a_ (pv 3) d_)) d_))))
   (de (ly (i:=5) rO.nd rfl (Or.inr rfl) (gC (AJ bx (pv 0) O.gE O.kR ji hr (a_ (pv 1) (a_ (pv 3) d_))) rfl))
   (de (gM (Vw bx O.vE Ak hr (a_ (pv 4) (a_ (gA gp (by rfl) T.jh aao (a_ (pv 5) d_)) d_))))
   (de (ir (ke (uM (pv 4) (fun _=>rfl))) (f_ (j5 bx O.JS (by rfl) i6)) g_)
   (f_ (gM (yx (pv 0) O.gE O.sY mI hr (a_ (pv 1) (a_ (uO O.Cq jT (hr.mono (by decide)) (by rfl) O.Cr O.lQ.b .nil oy (a_ (pv 2) (a_ (pv 3) (a_ (iU d_) (a_ (xx zG (gb qr).names [6] rfl (ie (pv 4)) rfl (by decide+kernel) (fun _ _ _ _=>(iz (i:=6) rO.nd rfl (Or.inl rfl))) (fun _ _ _ _=>mK) (fun _ _ _ _=>AF (gC (rD (pv 5) (pv 6)) rfl))) (a_ t_ d_)))))) d_)))))))))),?_⟩
 refine Rc ?_;intro _ _ _ _ _
 refine⟨_,rfl,d,π.dx,_,rfl,x.hd,jx,_,rfl,d,D,W,st,rfl,X,vV,fun hs=>?_,fun hs=>q1 hs⟩
 refine⟨_,rfl,d,π.dx,_,rfl,x.hd,qD,_,rfl,_,rfl,L2.jI,fun l hl=>?_⟩
 have s1:gj H (upd H l (.lst [V.str f])):=(gj.refl H).new hl
 refine⟨d,l,D,W,y,[f],rfl,X.same s1,b_,by show 1≤1000;decide,fun z hz=>?_,fun h H' s'=>q2 hs (fun g=>h (ll.mpr g)) H' (s1.trans s'),fun h hn H' s'=>q3 hs (ll.mp h).1 (ll.mp h).2 hn H' (s1.trans s'),fun h hn H2 s2=>?_⟩
 ·rcases Wg.mp hz with z|z
  ·rw[z];exact Ge
  ·rw[List.mem_singleton.mp z];exact P0
 obtain⟨gy,gf⟩:=ll.mp h
 have BP:=s1.trans s2
 have X2:=X.same BP
 refine⟨_,rfl,d,π.dx,_,rfl,BP _ _ x.hd,oV,_,rfl,_,rfl,d,D,W,st,f,rfl,X2,vV,sm,I,fun h=>absurd hs h,fun _ p H3 s3 sM ⟨px,ah,ln,g1,g2,⟨as,g3,g4⟩⟩=>?_⟩
 have BQ:=BP.trans s3
 have hlen:=aan g4
 have el:((as.map V.ref).length:Int)=((D.row st f).length:Int):=by rw[So,hlen]
 refine⟨p,A.h_,px,_,_,rfl,g1,O.j2,O.ip,lj ah ln,?_⟩
 refine⟨_,rfl,_,rfl,ln,_,rfl,.inl (gF.of g3),?_⟩
 rw[el]
 refine⟨t,ps,_,rfl,BQ _ _ ht,PZ,fun ok=>?_,fun nok=>q4 hs gy gf hn nok _ BQ⟩
 by_cases UK:ps=[]
 ·refine⟨_,rfl,false,.inl ⟨_,gF.of (BQ _ _ ht),by rw[UK];rfl⟩,?_⟩
  exact q5 hs gy gf hn UK _ BQ
 ·refine⟨_,rfl,true,.inl ⟨_,gF.of (BQ _ _ ht),by simpa using UK⟩,?_⟩
  refine jz ?_
  refine⟨_,rfl,d,π.dx,_,rfl,BQ _ _ x.hd,CD,_,rfl,_,rfl,_,rfl,L2.jI,fun a ha=>?_⟩
  have s4:=BQ.new (o:=.lst []) ha
  have P1:gj H3 (upd H3 a (.lst [])):=(gj.refl H3).new ha
  have UH:(upd H3 a (.lst [])) a=some (.lst []):=b_
  generalize upd H3 a (.lst [])=H4 at s4 P1 UH
  let Jv:=fun(i:Nat) (ys:List V) (σ:St) (H5:Hp)=>∃(v6:Option V),σ=[rr d,rs st,rs y,rs f,rr t,rr ln,v6]∧H5=H4∧ys.length≤i∧Paired (lx H3) ys ((ps.take i).filterMap fun p=>((D.row st f)[p.toNat]?).map (·.nm))
  refine⟨_,rfl,t,rfl,⟨_,gF.of (s4 _ _ ht)⟩,jY (K:=K) (a:=t) (xs:=ps.map V.int) (by rw[So];omega) Jv
   ⟨none,rfl,rfl,Vx _,.nil⟩ (by rintro _ _ _ _ _ ⟨_,_,e,e2,_⟩;rw[e];exact⟨gF.of (s4 _ _ ht),e2⟩) ?_ ?_⟩
  ·rintro i v ys σ H5 hx ⟨v6,rfl,rfl,e2,e3⟩
   rw[aae] at hx
   obtain⟨pl,oh,rfl⟩:=Option.map_eq_some_iff.mp hx
   obtain⟨b1,b2⟩:=GS (by decide) ok pl (Vs oh)
   have kB:pl.toNat<(D.row st f).length:=by omega
   have EK:(D.row st f)[pl.toNat]?=some (D.row st f)[pl.toNat]:=Su kB
   obtain⟨b,hb,dx,vn,vu,vl,k1,⟨nt,rfl,k2⟩,k3,k4⟩:=zX g4 EK
   refine⟨_,rfl,_,rfl,ln,_,_,_,rfl,rfl,gF.of (P1 _ _ g3),ic (j:=pl.toNat) (by omega) hb,b,A.gJ,dx,_,_,rfl,P1 _ _ k1,O.iM,O.gH,iZ,?_⟩
   refine⟨_,rfl,rfl,M4,?_⟩
   rw[take_snoc oh,abO,abu,EK]
   exact iy e3 ⟨nt,rfl,k2⟩
  ·rintro ys σ H5 ⟨v6,rfl,rfl,e2,e3⟩ c hc
   rw[So,aak] at e3
   have s5:=s4.new (o:=.lst ys) hc
   intro o dx no PR WX
   refine⟨o,dx,_,_,_,_,_,rfl,b_,fun H6 r6 r7=>⟨rfl,?_⟩⟩
   have s6:gj (upd H5 c (.lst ys)) H6:=fun b u ec=>by
    rw[r6 b (gh ec no),e_ (gh ec no),e_ (gh ec PR)]
    exact ec
   have To:=s5.trans s6
   have s36:gj H3 H6:=(P1.new hc).trans s6
   have pt:oa A H6 o ⟨y,some f,[],ps.filterMap fun p=>((D.row st f)[p.toNat]?).map (·.nm),none⟩:=⟨dx,_,a,c,.jl,r7,rfl,⟨[],s6 _ _ (il hc UH),.nil⟩,⟨ys,s6 _ _ b_,Paired.kJ e3 fun _ _ z=>z.same s36⟩,rfl⟩
   have Nn:(ps.filterMap fun p=>((D.row st f)[p.toNat]?).map (·.nm)).length≤4000:=aac (List.length_filterMap_le _ _) (by omega)
   refine⟨d,o,D,W,st,_,rfl,X.same To,I,sm.many,hs,pt,hn,aaI _,Nn,fun z hz=>?_,fun H7 X7 s7=>q6 hs gy gf hn ok UK H7 X7 fun b o e n=>s7 b o (To _ _ e) n⟩
   unfold iK at hz
   rcases Wl.mp hz with hz|hz
   ·obtain⟨m,hm,rfl⟩:=List.mem_map.mp hz
    have hm:=(aam.mp hm).1
    have hm:m∈(ps.filterMap fun p=>((D.row st f)[p.toNat]?).map (·.nm)):=by simpa[named] using hm
    obtain⟨pl,_,oh⟩:=ab1.mp hm
    obtain⟨l',Il,rfl⟩:=Option.map_eq_some_iff.mp oh
    obtain⟨q,h1,_,h3⟩:=I.uW (Vs Il)
    have hq:=(Inv.mx.mp h1).1
    rw[rE (I.HG q hq) (aaa h3)]
    exact aaa hq
   ·cases hz
noncomputable def cellAt(ns:List Int)(k:Int):Int:=(ns[k.toNat]?).getD 0
noncomputable def CJ(i:Int):Str:=⟨#[(lY.cps[(i%36).toNat]?).getD 0]⟩
noncomputable def kA(cell k:Int):Nat→Str
 | 0=>Str.ofString ""
 | j+1=>kA cell k j++(if(j:Int)=cell/12%(1+cell%12) then CJ (k+cell/144) else CJ (cell/144+5*(j:Int)+cell/5184%2*k*7))
noncomputable def nameOf(cell k:Int):Str:=kA cell k (1+cell%12).toNat
theorem CK:lY.length=36:=by decide+kernel
theorem Kg:lY.cps.size=36:=CK
theorem CL(a b:Str):(a++b).cps.toList=a.cps.toList++b.cps.toList:=Array.toList_append
theorem GU(a b:Str):(a++b).length=a.length+b.length:=Array.size_append
theorem yX(i:Int):∃c,DC lY.cps.toList (i%36)=some c∧CJ i=⟨#[c]⟩∧c∈lY.cps.toList:=by
 have b:=mod_lt i 36 (by decide)
 obtain⟨c,e,ev⟩:=pC (xs:=lY.cps.toList) b.1 (by rw[aa5,Kg];exact b.2)
 rw[aa0] at ev
 exact⟨c,e,by unfold CJ;rw[ev];rfl,Vs (i:=(i%36).toNat) (by rw[aa0];exact ev)⟩
theorem yY(cell k:Int):∀j,(kA cell k j).length=j∧∀c∈(kA cell k j).cps.toList,c∈lY.cps.toList
 | 0=>⟨by unfold kA;decide+kernel,fun c hc=>by
   have:(kA cell k 0).cps.toList=[]:=by unfold kA;decide+kernel
   rw[this] at hc;cases hc⟩
 | j+1=>by
  have ⟨h1,h2⟩:=yY cell k j
  unfold kA
  obtain⟨c1,_,e1,m1⟩:=yX (k+cell/144)
  obtain⟨c2,_,e2,m2⟩:=yX (cell/144+5*(j:Int)+cell/5184%2*k*7)
  split
  ·rw[e1,GU,CL]
   refine⟨by rw[h1];rfl,fun c hc=>?_⟩
   rcases Wl.mp hc with hc|hc
   ·exact h2 c hc
   ·rw[List.mem_singleton.mp hc];exact m1
  ·rw[e2,GU,CL]
   refine⟨by rw[h1];rfl,fun c hc=>?_⟩
   rcases Wl.mp hc with hc|hc
   ·exact h2 c hc
   ·rw[List.mem_singleton.mp hc];exact m2
theorem lq(cell k:Int):Good (nameOf cell k):=by
 obtain⟨h1,h2⟩:=yY cell k (1+cell%12).toNat
 have b:=mod_lt cell 12 (by decide)
 exact⟨by unfold nameOf;rw[h1];omega,by unfold nameOf;rw[h1];omega,h2⟩
theorem Ml{x:Str}(h:x.length≤1000)(hc:∀c∈x.cps.toList,c<1114112):jV x:=by
 refine⟨?_,h⟩
 have z:=PySem.StrLaws.reprText_len x fun c BL=>Nat.lt_trans (hc c BL) (by decide)
 omega
theorem Kh:∀c∈lY.cps.toList,c<1114112:=by decide+kernel
theorem Good.rb{x:Str}(g:Good x):jV x:=Ml (by have:=g.2.1;omega) fun c hc=>Kh c (g.2.2 c hc)
noncomputable def GV(i:Int):Nat:=(lY.cps[(i%36).toNat]?).getD 0
theorem HW{i j:Int}(h:GV i=GV j):i%36=j%36:=by
 have key:∀a<36,∀b<36,(lY.cps[a]?).getD 0=(lY.cps[b]?).getD 0→a=b:=by decide+kernel
 have b1:=mod_lt i 36 (by decide)
 have b2:=mod_lt j 36 (by decide)
 have:=key (i%36).toNat (by omega) (j%36).toNat (by omega) h
 omega
theorem CM(cell k:Int):∀n j,j<n→(kA cell k n).cps.toList[j]?=some (if(j:Int)=cell/12%(1+cell%12) then GV (k+cell/144) else GV (cell/144+5*(j:Int)+cell/5184%2*k*7))
 | 0,j,h=>by omega
 | n+1,j,h=>by
  have hl:(kA cell k n).cps.toList.length=n:=by rw[aa5];exact(yY cell k n).1
  rw[kA,CL]
  by_cases e:j=n
  ·subst e
   rw[aba (by omega),hl,Nat.sub_self]
   split<;>rfl
  ·rw[abP (by omega)]
   exact CM cell k n j (by omega)
theorem vN{c i j:Int}(h0:0≤i)(h1:i<36)(h2:0≤j)(h3:j<36)(h:nameOf c i=nameOf c j):i=j:=by
 have b:=mod_lt c 12 (by decide)
 have b2:=mod_lt (c/12) (1+c%12) (by omega)
 have e1:=CM c i (1+c%12).toNat (c/12%(1+c%12)).toNat (by omega)
 have e2:=CM c j (1+c%12).toNat (c/12%(1+c%12)).toNat (by omega)
 have h:kA c i (1+c%12).toNat=kA c j (1+c%12).toNat:=h
 rw[h] at e1
 rw[e1] at e2
 rw[aaq (by omega),aaq (by omega)] at e2
 have:=HW (aaz e2)
 omega
def OZ(K:Qqy):Sp:=fun vs H Q _=>∃(a:Addr)(ns:List Int)(k:Int),vs=[.ref a,.int k]∧gF K H a (ns.map V.int)∧0≤k∧Q (.int (cellAt ns k)) H
theorem GW(T:Txt mg)(O:Ok K mg A):ij P w K mg base l5 1 A.rZ A.r9 ["script","k"] (OZ K):=by
 refine O.iX.f.p_ yE fun jm A outer s H vs Q E hr h=>?_
 obtain⟨a,ns,k,rfl,ha,h0,q⟩:=h
 refine⟨_,(de (ir (ib Gq (pv 1) (gA gp (by rfl) T.jh aao (a_ (pv 0) d_)) (iA _)) (f_ (gR (rD (pv 0) (pv 1)))) g_)
   (f_ (gR gg))),?_⟩
 refine K5 ?_;intro _
 refine⟨_,rfl,_,rfl,a,_,rfl,.inl ha,_,_,rfl,rfl,_,rfl,?_⟩
 refine kq (fun hc=>?_) (fun hc=>?_)
 ·have hc:k<((ns.map V.int).length:Int):=aau hc
  obtain⟨v,e,ev⟩:=pC h0 hc
  rw[aae] at ev
  cases en:ns[k.toNat]? with
  | none=>rw[en] at ev;cases ev
  | some z=>
   rw[en] at ev
   cases ev
   unfold cellAt at q
   rw[en] at q
   exact⟨_,rfl,_,rfl,a,_,_,_,rfl,rfl,ha,e,q⟩
 ·have hc:¬k<((ns.map V.int).length:Int):=by simpa using hc
  unfold cellAt at q
  rw[So] at hc
  rw[List.getElem?_eq_none (by omega)] at q
  exact q
def O0:Sp:=fun vs H Q _=>∃(c k:Int),vs=[.int c,.int k]∧Q (.str (nameOf c k)) H
theorem GX(T:Txt mg)(O:Ok K mg A):ij P w K mg base l5 1 A.xZ A.x9 ["cell","k"] O0:=by
 refine O.p6.f.p_ jn fun jm A outer s H vs Q E hr h=>?_
 obtain⟨c,k,rfl,q⟩:=h
 refine⟨_,(de (lu 2 jn i6)
   (de (lu 3 jn (gz iI gg (gz iJ (pv 0) gg)))
   (de (lu 4 jn (gz jX (pv 0) gg))
   (de (lu 5 jn (gz rl (gz rl (gz iJ (gz jX (pv 0) gg) gg) (pv 1)) gg))
   (de (lu 6 jn i6)
   (de (iu aap rfl (j7 rfl T.kX (a_ (pv 3) d_)) (rf 7 jn) (f_ (ir (ib lX (pv 7) (gz iJ (gz jX (pv 0) gg) (pv 3)) (iA _)) (f_ (lu 6 jn (gz y_ (pv 6) (jW Ff (pv 2) (gz iJ (gz iI (pv 1) (pv 4)) gg) (fun _ _=>rfl))))) (f_ (lu 6 jn (gz y_ (pv 6) (jW Ff (pv 2) (gz iJ (gz iI (gz iI (pv 4) (gz rl gg (pv 7))) (pv 5)) gg) (fun _ _=>rfl))))))))
   (f_ (gR (pv 6))))))))),?_⟩
 refine YJ ?_;intro _ _ _ _ _ _
 have b:=mod_lt c 12 (by decide)
 have b2:=mod_lt (c/5184) 2 (by decide)
 refine⟨_,rfl,_,_,rfl,rfl,(by show(0:Int)<12;decide),_,_,rfl,rfl,?_⟩
 refine⟨_,rfl,_,_,rfl,rfl,⟨by decide,by decide⟩,?_⟩
 refine⟨_,rfl,_,_,rfl,rfl,⟨by decide,by decide⟩,_,_,rfl,rfl,(by show(0:Int)<2;decide),_,rfl,_,_,rfl,rfl,.inl ⟨by omega,by omega⟩,_,_,rfl,rfl,.inr ⟨by decide,by decide⟩,?_⟩
 refine⟨_,rfl,_,rfl,by omega,by omega,?_⟩
 let Jv:=fun(j:Nat) (σ:St) (H2:Hp)=>∃v,σ=[ri c,ri k,rs lY,ri (1+c%12),ri (c/144),ri (c/5184%2*k*7),rs (kA c k j),v]∧H2=H
 refine k8 Jv ⟨none,rfl,rfl⟩ ?_ ?_
 ·rintro j σ H2 hj ⟨v,rfl,rfl⟩
  have hlen:=(yY c k j).1
  have hz:(kA c k j).length+1≤sizeLine:=aac (m:=13) (by omega) (by decide)
  refine⟨_,rfl,_,rfl,_,_,rfl,rfl,⟨by decide,by decide⟩,_,rfl,_,_,rfl,rfl,(by show(0:Int)<1+c%12;omega),rfl,_,rfl,?_⟩
  refine kq (fun hc=>?_) (fun hc=>?_)
  ·have hc:(0:Int)+(j:Int)=c/12%(1+c%12):=V.int.inj (aau hc)
   obtain⟨cp,e,es,_⟩:=yX (k+c/144)
   refine⟨_,rfl,_,rfl,_,rfl,_,rfl,_,_,rfl,rfl,_,_,rfl,rfl,(by show(0:Int)<36;decide),_,_,cp,rfl,rfl,by rw[CK];decide,e,_,_,rfl,rfl,hz,some (.int (0+(j:Int))),?_,rfl⟩
   rw[kA,aaq (by omega),es]
   rfl
  ·have hc:¬(0:Int)+(j:Int)=c/12%(1+c%12):=fun z=>hc (Vy (aa2 V.int z))
   obtain⟨cp,e,es,_⟩:=yX (c/144+5*(j:Int)+c/5184%2*k*7)
   refine⟨_,rfl,_,rfl,_,rfl,_,rfl,_,_,rfl,rfl,.inl ⟨by decide,by decide⟩,_,_,rfl,rfl,_,rfl,_,_,rfl,rfl,_,_,rfl,rfl,(by show(0:Int)<36;decide),_,_,cp,rfl,rfl,by rw[CK];decide,by rw[Int.zero_add];exact e,_,_,rfl,rfl,hz,some (.int (0+(j:Int))),?_,rfl⟩
   rw[kA,aal (by omega),es]
   rfl
 ·rintro σ H2 ⟨v,rfl,rfl⟩
  refine⟨_,rfl,?_⟩
  have:(1+c%12-0).toNat=(1+c%12).toNat:=by rw[Int.sub_zero]
  exact q
def O1:Sp:=fun vs H Q _=>∃(c k b:Int),vs=[.int c,.int k,.int b]∧0<b∧0≤k∧k≤1000∧∀x,0≤x→x<b→Q (.int x) H
theorem GY(T:Txt mg)(O:Ok K mg A):ij P w K mg base l5 1 A.xX A.xY ["cell","k","bound"] O1:=by
 refine O.wR.f.p_ qy fun jm A outer s H vs Q E hr h=>?_
 obtain⟨c,k,b,rfl,hb,Qy,Tc,q⟩:=h
 refine⟨_,(de (lu 3 qy (gz iJ (gz rl (gz iI (gz iI (gz iJ (pv 0) gg) (gz rl gg (pv 1))) gg) gg) gg))
  (de (lu 3 qy (gz iJ (gz rl (gz iI (pv 3) (gz rl gg (gz iI (pv 1) gg))) gg) gg))
  (f_ (gR (gz iJ (gz jX (pv 3) gg) (pv 2)))))),?_⟩
 refine DO ?_;intro _ _
 refine⟨_,rfl,_,_,rfl,rfl,(by show(0:Int)<2147483647;decide),_,rfl,_,_,rfl,rfl,.inl ⟨by decide,by decide⟩,_,_,rfl,rfl,_,_,rfl,rfl,_,_,rfl,rfl,.inr ⟨by decide,by decide⟩,_,_,rfl,rfl,(by show(0:Int)<2147483647;decide),?_⟩
 refine⟨_,rfl,_,rfl,_,_,rfl,rfl,_,_,rfl,rfl,.inl ⟨by decide,by decide⟩,_,_,rfl,rfl,_,_,rfl,rfl,.inr ⟨by decide,by decide⟩,_,_,rfl,rfl,(by show(0:Int)<2147483629;decide),?_⟩
 exact⟨_,rfl,_,_,rfl,rfl,⟨by decide,by decide⟩,_,rfl,_,_,rfl,rfl,hb,q _ (mod_lt _ b hb).1 (mod_lt _ b hb).2⟩
noncomputable def wZ:Str:=Str.ofString " !#$&()*+,-./0123456789:;<=>?@ABCDEFGHIJKLMNOPQRSTUVWXYZ[]^_abcdefghijklmnopqrstuvwxyz{|}~"
theorem tj:wZ.length=90:=by decide+kernel
def O2:Sp:=fun vs H Q _=>∃(c:Int),vs=[.int c]∧∀x H',gj H H'→Q (.str x) H'
theorem EA:∀(xs:List Str),(∀x∈xs,x.length=1)→(xs.map (·.length)).sum=xs.length
 | [],_=>rfl
 | x::r,h=>by
  rw[aaw,List.sum_cons,h x aav,EA r fun y hy=>h y (aaj _ hy),aaf]
  omega
theorem Mm(T:Txt mg)(O:Ok K mg A):ij P w K mg base l5 1 A.x_ A.ya ["cell"] O2:=by
 refine O.wU.f.p_ lL fun jm A outer s H vs Q E hr h=>?_
 obtain⟨c,rfl,q⟩:=h
 refine⟨_,(de (ly (i:=1) lL.nd rfl (Or.inr rfl) i6)
   (de (ir (ib lX (gz iJ (pv 0) gg) gg (iA _)) (f_ (gR (rD (iU (a_ i6 (a_ i6 (a_ i6 (a_ i6 d_))))) (gz iJ (gz jX (pv 0) gg) gg)))) g_)
   (de (lu 2 lL (gz iJ (gz jX (pv 0) gg) gg))
   (de (qd (ir (ib lX (gz iJ (gz jX (pv 0) gg) gg) gg (iA _)) (f_ (lu 2 lL gg)) g_))
   (f_ (gR (ow PySem.F.plainAttrs_str PySem.F.slot_str_join PySem.F.type_str_join LF i6 (a_ (xx xF (gb oF).names [3] rfl (j7 rfl T.kX (a_ (pv 2) d_)) rfl (by decide+kernel) (fun _ _ _ _=>(iz (i:=3) lL.nd rfl (Or.inl rfl))) (fun _ _ _ _=>mK) (fun _ _ _ _=>AF (jW Ff (pv 1) (gz iJ (gz iI (gz jX (pv 0) gg) (gz rl gg (pv 3))) (gA uQ (by rfl) T.jh aao (a_ (pv 1) d_))) (fun _ _=>rfl)))) d_)))))))),?_⟩
 refine Qc ?_;intro _ _ _ _
 refine⟨_,rfl,_,_,rfl,rfl,(by show(0:Int)<3;decide),rfl,_,rfl,?_⟩
 refine kq (fun _=>?_) (fun _=>?_)
 ·refine⟨jI,fun l hl=>?_⟩
  refine⟨_,rfl,_,_,rfl,rfl,⟨by decide,by decide⟩,_,_,rfl,rfl,(by show(0:Int)<4;decide),?_⟩
  have b:=mod_lt (c/3) 4 (by decide)
  obtain⟨v,e,ev⟩:=pC (xs:=[V.str (Str.ofString "a"),V.str (Str.ofString "b"),V.str (Str.ofString ""),V.str (Str.ofString " ")]) b.1 (by simpa using b.2)
  refine⟨l,_,_,v,rfl,rfl,gF.of b_,e,?_⟩
  have hv:∃x,v=V.str x:=by
   have hm:=Vs ev
   simp at hm
   rcases hm with rfl|rfl|rfl|rfl<;>exact⟨_,rfl⟩
  obtain⟨x,rfl⟩:=hv
  exact q x _ ((gj.refl H).new hl)
 ·refine⟨_,rfl,_,_,rfl,rfl,⟨by decide,by decide⟩,_,_,rfl,rfl,(by show(0:Int)<5;decide),?_⟩
  have b:=mod_lt (c/3) 5 (by decide)
  refine⟨fun σ H2=>∃(z:Int)(v:Option V),σ=[ri c,rs wZ,ri z,v]∧H2=H∧0≤z∧z≤80,?_,?_⟩
  ·refine⟨_,rfl,_,_,rfl,rfl,⟨by decide,by decide⟩,_,_,rfl,rfl,(by show(0:Int)<9;decide),rfl,_,rfl,?_⟩
   refine kq (fun _=>?_) (fun _=>?_)
   ·exact⟨80,_,rfl,rfl,by decide,by decide⟩
   ·exact⟨_,_,rfl,rfl,b.1,by omega⟩
  ·rintro σ H2 ⟨z,v,rfl,rfl,z0,z1⟩
   refine⟨rfl,_,rfl,_,rfl,by omega,by omega,?_⟩
   let Jv:=fun(m:Nat) (ys:List V) (σ:St) (H3:Hp)=>∃(v:Option V)(xs:List Str),σ=[ri c,rs wZ,ri z,v]∧H3=H2∧ys=gi xs∧xs.length=m∧∀x∈xs,x.length=1
   refine rB (by have:sizeLine=2 ^ 24:=rfl;omega) Jv
    ⟨none,[],rfl,rfl,rfl,rfl,fun x hx=>nomatch hx⟩ (by rintro _ _ _ _ ⟨_,xs,_,_,e,e2,_⟩;rw[e,So];omega) ?_ ?_
   ·rintro m ys σ H3 hm ⟨v,xs,rfl,rfl,rfl,hx,h1⟩
    refine⟨_,rfl,_,rfl,_,_,rfl,rfl,⟨by decide,by decide⟩,_,rfl,_,_,rfl,rfl,.inl ⟨by decide,by decide⟩,_,_,rfl,rfl,_,rfl,_,rfl,by rw[tj];decide,_,_,rfl,rfl,(by show(0:Int)<(wZ.length:Int);rw[tj];decide),?_⟩
    have b:=mod_lt (c/45+7*(0+(m:Int))) (wZ.length:Int) (by rw[tj];decide)
    obtain⟨cp,e,_⟩:=pC (xs:=wZ.cps.toList) b.1 (by rw[aa5];exact b.2)
    refine⟨_,_,cp,rfl,rfl,by rw[tj];decide,e,?_⟩
    refine⟨_,xs++[⟨#[cp]⟩],rfl,rfl,i8 _ _,by rw[Vq,hx];rfl,fun x Tp=>?_⟩
    rcases Wl.mp Tp with Tp|Tp
    ·exact h1 x Tp
    ·rw[List.mem_singleton.mp Tp];rfl
   ·rintro ys σ H3 ⟨v,xs,rfl,rfl,rfl,hx,h1⟩ p hp
    refine⟨_,p,xs,rfl,rfl,gF.of b_,?_,?_⟩
    ·rw[EA xs h1]
     have:(Str.ofString "").length=0:=by decide+kernel
     rw[this]
     omega
    ·exact q _ _ ((gj.refl H3).new hp)
theorem vO(l:List Str)(k:Nat):uP (gi l) none (some (k:Int))=gi (l.take k):=by
 unfold uP
 rw[HT.DA,HT.Gv,Nat.sub_zero,List.drop_zero]
 unfold gi
 rw[So,←List.map_take]
 congr 1
 by_cases h:k≤l.length
 ·rw[Nat.min_eq_left h]
 ·rw[Nat.min_eq_right (by omega),List.take_of_length_le (Vx _),List.take_of_length_le (by omega)]
theorem EB(l:List Str)(k:Nat):uP (gi l) (some (k:Int)) none=gi (l.drop k):=by
 unfold uP
 rw[HT.DA,HT.Gv,List.take_of_length_le (by rw[List.length_drop];exact Vx _)]
 unfold gi
 rw[So,←List.map_drop]
 congr 1
 by_cases h:k≤l.length
 ·rw[Nat.min_eq_left h]
 ·rw[Nat.min_eq_right (by omega),List.drop_of_length_le (Vx _),List.drop_of_length_le (by omega)]
theorem w9(l:List Str){z:Int}{k:Nat}(h:z=(k:Int)):uP (gi l) (some z) none=gi (l.drop k):=by rw[h,EB]
structure FP(ts Ld:List Str):Prop where
 ne:ts≠Ld
 len:Ld.length≤ts.length+3
 near:Ld.length≤K01.lcs ts Ld+3
theorem Ac{x y s:List Str}(h1:s.Sublist x)(h2:s.Sublist y):s.length≤K01.lcs x y:=(K01.jZ x y).1 s h1 h2
theorem CN{ts Ld:List Str}(h:ts.length≠Ld.length):ts≠Ld:=fun z=>h (aa2 List.length z)
theorem HX(ts:List Str)(k:Nat)(x:Str):FP ts (ts.take k++[x]++ts.drop k):=by
 have hl:(ts.take k++[x]++ts.drop k).length=ts.length+1:=by simp;omega
 have hs:ts.Sublist (ts.take k++[x]++ts.drop k):=by
  conv=>lhs;rw[←aby k ts]
  rw[aaK]
  exact(aaC _).append (aa1 _ _)
 have:=Ac (aaC ts) hs
 exact⟨CN (by omega),by omega,by omega⟩
theorem Ki(ts:List Str)(k:Nat)(h:k<ts.length):FP ts (ts.take k++ts.drop (k+1)):=by
 have hl:(ts.take k++ts.drop (k+1)).length=ts.length-1:=by simp;omega
 have hs:(ts.take k++ts.drop (k+1)).Sublist ts:=by
  conv=>rhs;rw[←aby k ts]
  refine(aaC _).append ?_
  rw[aaP h]
  exact abt _ _
 have:=Ac hs (aaC _)
 exact⟨CN (by omega),by omega,by omega⟩
theorem FQ(ts:List Str)(k:Nat)(x:Str)(h:k<ts.length)(hx:ts[k]≠x):FP ts (ts.take k++[x]++ts.drop (k+1)):=by
 have hl:(ts.take k++[x]++ts.drop (k+1)).length=ts.length:=by simp;omega
 have hs:(ts.take k++ts.drop (k+1)).Sublist ts:=by
  conv=>rhs;rw[←aby k ts]
  refine(aaC _).append ?_
  rw[aaP h]
  exact abt _ _
 have Ip:(ts.take k++ts.drop (k+1)).Sublist (ts.take k++[x]++ts.drop (k+1)):=by
  rw[aaK]
  exact(aaC _).append (aa1 _ _)
 have:=Ac hs Ip
 have KA:(ts.take k++ts.drop (k+1)).length=ts.length-1:=by simp;omega
 refine⟨fun z=>hx ?_,by omega,by omega⟩
 have e:ts[k]?=(ts.take k++[x]++ts.drop (k+1))[k]?:=by rw[←z]
 rw[aaK,aba (by rw[aaB];omega),aaB,show k-min k ts.length=0 by omega,Su h] at e
 exact aaz e
theorem FR(ts:List Str)(k:Nat)(x y z:Str):FP ts ([x]++(ts.take k++[y]++ts.drop k)++[z]):=by
 have hl:([x]++(ts.take k++[y]++ts.drop k)++[z]).length=ts.length+3:=by simp;omega
 have hs:ts.Sublist ([x]++(ts.take k++[y]++ts.drop k)++[z]):=by
  refine List.Sublist.trans ?_ (List.sublist_append_left _ _)
  refine List.Sublist.trans ?_ (aa1 _ _)
  conv=>lhs;rw[←aby k ts]
  rw[aaK]
  exact(aaC _).append (aa1 _ _)
 have:=Ac (aaC ts) hs
 exact⟨CN (by omega),by omega,by omega⟩
theorem HY(ts:List Str)(k:Nat)(x y z:Str)(h:k+1<ts.length):FP ts (ts.take k++[x,y,z]++ts.drop (k+2)):=by
 have hl:(ts.take k++[x,y,z]++ts.drop (k+2)).length=ts.length+1:=by simp;omega
 have hs:(ts.take k++ts.drop (k+2)).Sublist ts:=by
  conv=>rhs;rw[←aby k ts]
  refine(aaC _).append ?_
  exact K01.zv (by omega)
 have Ip:(ts.take k++ts.drop (k+2)).Sublist (ts.take k++[x,y,z]++ts.drop (k+2)):=by
  rw[aaK]
  exact(aaC _).append (aa1 _ _)
 have:=Ac hs Ip
 have KA:(ts.take k++ts.drop (k+2)).length=ts.length-2:=by simp;omega
 exact⟨CN (by omega),by omega,by omega⟩
def O3:Sp:=fun vs H Q _=>∃(t:Addr)(ts:List Str)(c:Int),vs=[.ref t,.int c]∧H t=some (.lst (gi ts))∧ts.length≤900∧∀p H' Ld,gj H H'→H' p=some (.lst (gi Ld))→FP ts Ld→Q (.ref p) H'
theorem Mn(T:Txt mg)(O:Ok K mg A):ij P w K mg base l5 2 A.yb A.yc ["texts","cell"] O3:=by
 have yq:=@Mm P w K mg base A T O
 refine O.By.f.p_ j1 fun jm A outer s H vs Q E hr h=>?_
 obtain⟨t,ts,c,rfl,ht,hl,q⟩:=h
 have sz:sizeLine=16777216:=aay
 have et:((gi ts).length:Int)=(ts.length:Int):=by simp
 refine⟨_,(de (lu 2 j1 (gz iJ (gz jX (pv 1) gg) (gz iI (gA gp (by rfl) T.jh aao (a_ (pv 0) d_)) gg)))
   (de (lu 3 j1 (nE O.wU yq hr (a_ (gz jX (pv 1) gg) d_)))
   (de (lu 4 j1 (gz nG (gz nG (mB ou (pv 0) oj (oq (pv 2))) (iU (a_ (pv 3) d_))) (mB ou (pv 0) (oq (pv 2)) oj)))
   (de (lu 5 j1 (gz iJ (pv 1) gg))
   (de (qd (ir ((pw_and (ib lX (pv 5) gg (iA _)) (pw_and1 (ib Ba (gA gp (by rfl) T.jh aao (a_ (pv 0) d_)) gg (iA _)))).pt) (de (lu 6 j1 (gz iJ (pv 2) (gA gp (by rfl) T.jh aao (a_ (pv 0) d_))))
   (f_ (gR (gz nG (mB ou (pv 0) oj (oq (pv 6))) (mB ou (pv 0) (oq (gz iI (pv 6) gg)) oj))))) g_))
   (de (qd (ir ((pw_and (ib lX (pv 5) gg (iA _)) (pw_and (ib Gq (pv 2) (gA gp (by rfl) T.jh aao (a_ (pv 0) d_)) (iA _)) (pw_and1 (ib Du (rD (pv 0) (pv 2)) (pv 3) (iA _))))).pt) (f_ (gR (gz nG (gz nG (mB ou (pv 0) oj (oq (pv 2))) (iU (a_ (pv 3) d_))) (mB ou (pv 0) (oq (gz iI (pv 2) gg)) oj)))) g_))
   (de (qd (ir (ib lX (pv 5) gg (iA _)) (f_ (gR (gz nG (gz nG (iU (a_ (pv 3) d_)) (pv 4)) (iU (a_ (nE O.wU yq hr (a_ (gz jX (pv 1) gg) d_)) d_))))) g_))
   (de (qd (ir ((pw_and (ib lX (pv 5) gg (iA _)) (pw_and1 (ib Gq (gz iI (pv 2) gg) (gA gp (by rfl) T.jh aao (a_ (pv 0) d_)) (iA _)))).pt) (de (lu 7 j1 (iU (a_ (rD (pv 0) (gz iI (pv 2) gg)) (a_ (pv 3) (a_ (rD (pv 0) (pv 2)) d_)))))
   (f_ (gR (gz nG (gz nG (mB ou (pv 0) oj (oq (pv 2))) (pv 7)) (mB ou (pv 0) (oq (gz iI (pv 2) gg)) oj))))) g_))
   (f_ (gR (pv 4))))))))))),?_⟩
 refine sl9 ?_;intro _ _ _ _ _ _ _ _
 refine⟨_,rfl,_,_,rfl,rfl,⟨by decide,by decide⟩,_,rfl,t,_,rfl,.inl (gF.of ht),_,_,rfl,rfl,_,_,rfl,rfl,(by rw[et];omega),?_⟩
 rw[et]
 have b:=mod_lt (c/5) ((ts.length:Int)+1) (by omega)
 obtain⟨k,hk⟩:∃k:Nat,c/5%((ts.length:Int)+1)=(k:Int):=⟨_,(Int.toNat_of_nonneg b.1).symm⟩
 dsimp only
 rw[hk]
 have Iw:k≤ts.length:=by omega
 refine⟨_,rfl,_,_,rfl,rfl,⟨by decide,by decide⟩,c/30,rfl,fun x H1 s1=>?_⟩
 have Y_:=s1 _ _ ht
 refine⟨_,rfl,_,rfl,_,rfl,t,_,rfl,gF.of Y_,fun a ha=>?_⟩
 rw[vO]
 have s2:=s1.new (o:=.lst (gi (ts.take k))) ha
 have ZO:(upd H1 a (.lst (gi (ts.take k)))) a=some (.lst (gi (ts.take k))):=b_
 generalize upd H1 a (.lst (gi (ts.take k)))=H2 at s2 ZO
 refine⟨_,rfl,L2.jI,fun b0 Nx=>?_⟩
 have s3:=s2.new (o:=.lst [V.str x]) Nx
 refine⟨a,b0,_,_,rfl,rfl,il Nx ZO,b_,by simp;omega,fun d hd=>?_⟩
 have s4:=s3.new (o:=.lst (gi (ts.take k)++[V.str x])) hd
 have ZP:(upd (upd H2 b0 (.lst [V.str x])) d (.lst (gi (ts.take k)++[V.str x]))) d=some (.lst (gi (ts.take k++[x]))):=by rw[b_,i8]
 generalize upd (upd H2 b0 (.lst [V.str x])) d (.lst (gi (ts.take k)++[V.str x]))=H4 at s4 ZP
 refine⟨_,rfl,_,rfl,_,rfl,t,_,rfl,gF.of (s4 _ _ ht),fun e he=>?_⟩
 rw[EB]
 have s5:=s4.new (o:=.lst (gi (ts.drop k))) he
 refine⟨d,e,_,_,rfl,rfl,il he ZP,b_,by simp;omega,fun m hm=>?_⟩
 have s6:=s5.new (o:=.lst (gi (ts.take k++[x])++gi (ts.drop k))) hm
 have Xk:(upd (upd H4 e (.lst (gi (ts.drop k)))) m (.lst (gi (ts.take k++[x])++gi (ts.drop k)))) m=some (.lst (gi (ts.take k++[x]++ts.drop k))):=by rw[b_,mF]
 generalize upd (upd H4 e (.lst (gi (ts.drop k)))) m (.lst (gi (ts.take k++[x])++gi (ts.drop k)))=H6 at s6 Xk
 have KU:=s6 _ _ ht
 refine⟨_,rfl,_,_,rfl,rfl,(by show(0:Int)<5;decide),?_⟩
 refine⟨fun σ H7=>σ=[rr t,ri c,ri k,rs x,rr m,ri (c%5),none,none]∧H7=H6,?_,?_⟩
 ·refine⟨_,rfl,rfl,_,rfl,?_⟩
  refine kq (fun _=>?_) (fun _=>jz ⟨rfl,rfl⟩)
  refine⟨_,rfl,t,_,rfl,.inl (gF.of KU),_,_,rfl,rfl,_,rfl,?_⟩
  refine kq (fun h1=>?_) (fun _=>⟨rfl,rfl⟩)
  have h1:0<ts.length:=by have:=aau h1;rw[et] at this;omega
  refine⟨_,rfl,_,rfl,t,_,rfl,.inl (gF.of KU),_,_,rfl,rfl,(by rw[et];omega),?_⟩
  have b2:=mod_lt (k:Int) (ts.length:Int) (by omega)
  obtain⟨o,ho⟩:∃o:Nat,(k:Int)%(ts.length:Int)=(o:Int):=⟨_,(Int.toNat_of_nonneg b2.1).symm⟩
  rw[et]
  dsimp only
  rw[ho]
  refine⟨_,rfl,_,rfl,_,rfl,t,_,rfl,gF.of KU,fun a ha=>?_⟩
  have s7:=s6.new (o:=.lst (uP (gi ts) none (some (o:Int)))) ha
  refine⟨_,rfl,_,rfl,_,_,rfl,rfl,_,rfl,t,_,rfl,gF.of (s7 _ _ ht),fun e he=>?_⟩
  have s8:=s7.new (o:=.lst (uP (gi ts) (some ((o:Int)+1)) none)) he
  refine⟨a,e,gi (ts.take o),gi (ts.drop (o+1)),rfl,rfl,il he (by rw[b_,vO]),by rw[b_,w9 ts (k:=o+1) (by omega)],by simp;omega,fun p hp=>?_⟩
  refine q p _ _ (s8.new hp) ?_ (Ki ts o (by omega))
  rw[b_,mF]
 rintro σ H7 ⟨rfl,rfl⟩
 refine⟨fun σ H8=>σ=[rr t,ri c,ri k,rs x,rr m,ri (c%5),none,none]∧H8=H7,?_,?_⟩
 ·refine⟨_,rfl,rfl,_,rfl,?_⟩
  refine kq (fun _=>?_) (fun _=>jz ⟨rfl,rfl⟩)
  refine⟨_,rfl,_,rfl,t,_,rfl,.inl (gF.of KU),_,_,rfl,rfl,_,rfl,?_⟩
  refine kq (fun h1=>?_) (fun _=>jz ⟨rfl,rfl⟩)
  have h1:k<ts.length:=by have:=aau h1;rw[et] at this;omega
  have hx:ts[k]?=some ts[k]:=Su h1
  refine⟨_,rfl,_,rfl,t,_,_,_,rfl,rfl,gF.of KU,ic rfl (oA hx),_,rfl,rfl,_,rfl,?_⟩
  refine kq (fun h2=>?_) (fun _=>⟨rfl,rfl⟩)
  have h2:ts[k]≠x:=fun z=>by rw[z] at h2;simp at h2
  refine⟨_,rfl,_,rfl,_,rfl,t,_,rfl,gF.of KU,fun a ha=>?_⟩
  have s7:=s6.new (o:=.lst (uP (gi ts) none (some (k:Int)))) ha
  rw[vO] at s7 ⊢
  refine⟨_,rfl,L2.jI,fun b0 Nx=>?_⟩
  have s8:=s7.new (o:=.lst [V.str x]) Nx
  refine⟨a,b0,_,_,rfl,rfl,il Nx b_,b_,by simp;omega,fun d hd=>?_⟩
  have s9:=s8.new (o:=.lst (gi (ts.take k)++[V.str x])) hd
  refine⟨_,rfl,_,rfl,_,_,rfl,rfl,_,rfl,t,_,rfl,gF.of (s9 _ _ ht),fun e he=>?_⟩
  have MK:=s9.new (o:=.lst (uP (gi ts) (some ((k:Int)+1)) none)) he
  refine⟨d,e,_,gi (ts.drop (k+1)),rfl,rfl,il he b_,by rw[b_,w9 ts (k:=k+1) (by omega)],by simp;omega,fun p hp=>?_⟩
  refine q p _ _ (MK.new hp) ?_ (FQ ts k x h1 h2)
  rw[b_,i8,mF]
 rintro σ H8 ⟨rfl,rfl⟩
 refine⟨fun σ H9=>σ=[rr t,ri c,ri k,rs x,rr m,ri (c%5),none,none]∧H9=H8,?_,?_⟩
 ·refine⟨_,rfl,rfl,_,rfl,?_⟩
  refine kq (fun _=>?_) (fun _=>⟨rfl,rfl⟩)
  refine⟨_,rfl,L2.jI,fun a ha=>?_⟩
  have s7:=s6.new (o:=.lst [V.str x]) ha
  refine⟨_,rfl,a,m,_,_,rfl,rfl,b_,il ha Xk,by simp;omega,fun b0 Nx=>?_⟩
  have s8:=s7.new (o:=.lst ([V.str x]++gi (ts.take k++[x]++ts.drop k))) Nx
  refine⟨_,rfl,_,_,rfl,rfl,⟨by decide,by decide⟩,c/60,rfl,fun y H9 s9=>⟨L2.jI,fun d hd=>?_⟩⟩
  have MK:=(s8.trans s9).new (o:=.lst [V.str y]) hd
  refine⟨b0,d,_,_,rfl,rfl,il hd (s9 _ _ b_),b_,by simp;omega,fun p hp=>?_⟩
  refine q p _ _ (MK.new hp) ?_ (FR ts k x x y)
  rw[b_]
  simp[gi]
 rintro σ H9 ⟨rfl,rfl⟩
 refine⟨fun σ PX=>σ=[rr t,ri c,ri k,rs x,rr m,ri (c%5),none,none]∧PX=H9,?_,?_⟩
 ·refine⟨_,rfl,rfl,_,rfl,?_⟩
  refine kq (fun _=>?_) (fun _=>jz ⟨rfl,rfl⟩)
  refine⟨_,rfl,_,_,rfl,rfl,_,rfl,t,_,rfl,.inl (gF.of KU),_,_,rfl,rfl,_,rfl,?_⟩
  refine kq (fun h1=>?_) (fun _=>⟨rfl,rfl⟩)
  have h1:k+1<ts.length:=by have:=aau h1;rw[et] at this;omega
  have hx:ts[k]?=some ts[k]:=Su (by omega)
  have hy:ts[k+1]?=some ts[k+1]:=Su h1
  refine⟨_,rfl,_,rfl,_,_,rfl,rfl,t,_,_,_,rfl,rfl,gF.of KU,ic (j:=k+1) (by omega) (oA hy),_,rfl,_,rfl,_,rfl,t,_,_,_,rfl,rfl,gF.of KU,ic rfl (oA hx),L2.jI,fun u hu=>?_⟩
  have s7:=s6.new (o:=.lst [V.str ts[k+1],V.str x,V.str ts[k]]) hu
  have ZQ:(upd H9 u (.lst [V.str ts[k+1],V.str x,V.str ts[k]])) u=some (.lst (gi [ts[k+1],x,ts[k]])):=b_
  generalize upd H9 u (.lst [V.str ts[k+1],V.str x,V.str ts[k]])=ZR at s7 ZQ
  refine⟨_,rfl,_,rfl,_,rfl,t,_,rfl,gF.of (s7 _ _ ht),fun a ha=>?_⟩
  rw[vO]
  have s8:=s7.new (o:=.lst (gi (ts.take k))) ha
  refine⟨_,rfl,a,u,_,_,rfl,rfl,b_,il ha ZQ,by simp;omega,fun d hd=>?_⟩
  have s9:=s8.new (o:=.lst (gi (ts.take k)++gi [ts[k+1],x,ts[k]])) hd
  refine⟨_,rfl,_,rfl,_,_,rfl,rfl,_,rfl,t,_,rfl,gF.of (s9 _ _ ht),fun e he=>?_⟩
  have MK:=s9.new (o:=.lst (uP (gi ts) (some ((k:Int)+2)) none)) he
  refine⟨d,e,_,gi (ts.drop (k+2)),rfl,rfl,il he b_,by rw[b_,w9 ts (k:=k+2) (by omega)],by simp;omega,fun p hp=>?_⟩
  refine q p _ _ (MK.new hp) ?_ (HY ts k ts[k+1] x ts[k] h1)
  rw[b_,mF,mF]
 rintro σ PX ⟨rfl,rfl⟩
 exact⟨_,rfl,q m _ _ s6 Xk (HX ts k x)⟩
structure Sz(k:Nat)(D:Dk):Prop where
 many:D.made.length≤k
 iB:(D.made.flatMap (·.iB)).length≤3*k
 j0:(D.made.flatMap (·.j0)).length≤3*(k*k)
theorem GZ(k:Nat):(k+1)*(k+1)=k*k+2*k+1:=by simp only [Nat.mul_add,Nat.add_mul];omega
theorem Sz.up{k:Nat}{D:Dk}(z:Sz k D):Sz (k+1) D:=⟨Nat.le_succ_of_le z.many,by have:=z.iB;omega,by have:=z.j0;have:=GZ k;omega⟩
theorem Sz.keep{k:Nat}{D:Dk}(z:Sz k D)(s:Str){p:Pt}(hp:p.iB.length≤3)(hc:p.j0.length≤3*k+3):Sz (k+1) (D.keep s p):=by
 refine⟨?_,?_,?_⟩
 ·show(D.made++[p]).length≤_
  rw[Vq];have:=z.many;show _+1≤_;omega
 ·show((D.made++[p]).flatMap (·.iB)).length≤_
  rw[abI,Vq,aaD,abB,aaJ];have:=z.iB;omega
 ·show((D.made++[p]).flatMap (·.j0)).length≤_
  rw[abI,Vq,aaD,abB,aaJ];have:=z.j0;have:=GZ k;omega
theorem Sz.small{k:Nat}{D:Dk}(z:Sz k D)(h:k≤36):Small D.made:=by
 have h2:k*k≤36*36:=Nat.mul_le_mul h h
 exact⟨aac z.many (by omega),aac z.iB (by omega),aac z.j0 (by omega)⟩
theorem Sz.row{k:Nat}{D:Dk}(z:Sz k D)(I:Inv D)(s f:Str):(D.row s f).length≤3*k:=aac (I.uX s f) z.iB
theorem ux(D:Dk)(s:Str)(p:Pt):(D.keep s p).names=D.names++[p.nm]:=by
 show(D.made++[p]).map (·.nm)=_
 rw[aat];rfl
theorem HZ{x f:Str}{row:List Ln}{texts:List Str}(e:FP (row.map (·.tx)) texts):(mG x f row texts).iB.length≤3:=by
 have rise:=sV (row.map (·.tx)) texts
 rw[So] at rise
 have h:=GD rise x
 rw[K01.xy] at h
 have:=e.near
 show(ku x texts _).length≤3
 omega
theorem pick{xs:List Str}{i:Int}(h0:0≤i)(h:i<(xs.length:Int)):∃x,DC (gi xs) i=some (V.str x)∧x∈xs:=by
 obtain⟨v,e,ev⟩:=pC (xs:=gi xs) h0 (by simpa using h)
 obtain⟨x,hx,rfl⟩:=jM ev
 exact⟨x,e,Vs hx⟩
def O4(A:Ad):Sp:=fun vs H Q _=>∃(d ss fs:Addr)(D:Dk)(W:Addr→Prop)(k:Nat)(stores files:List Str)(c:Int)(x:Str)(b:Bool),vs=[.ref d,.ref ss,.ref fs,.int c,.str x,.bl b]∧ig A H d D W∧Inv D∧Sz k D∧k<36∧
 H ss=some (.lst (gi stores))∧stores≠[]∧stores.length≤1000∧(∀s∈stores,s∈D.stores∧jV s)∧H fs=some (.lst (gi files))∧files≠[]∧files.length≤1000∧(∀f∈files,Good f)∧Good x∧x∉D.names∧(∀z∈D.names,jV z)∧
 ∀H' D',ig A H' d D' W→lZ W H H'→Inv D'→Sz (k+1) D'→D'.stores=D.stores→(D'.names=D.names∨D'.names=D.names++[x])→Q .jl H'
theorem Mo(T:Txt mg)(O:Ok K mg A):ij P w K mg base l5 7 A.yd A.ye ["desk","stores","files","cell","name","backs"] (O4 A):=by
 have uy:=(@Kd P w K mg base A T O).Fo
 have i_:=(@CG P w K mg base A T O).Fo
 have EO:=(@Mj P w K mg base A T O).Fo
 have ER:=(@Mi P w K mg base A T O).Fo
 have sN:=(@GQ P w K mg base A T O).Fo
 have mZ:=(@yn P w K mg base A T O).Fo
 have A_:=(@HV P w K mg base A T O).Fo
 have Gg:=(@OY P w K mg base A T O).Fo
 have ES:=@Mn P w K mg base A T O
 refine O.Bz.f.p_ jo fun jm A0 outer s H vs Q E hr h=>?_
 obtain⟨d,ss,fs,D,W,k,stores,files,c,x,bk,rfl,X,I,z,hk,KW,hs0,Ql,xc,vV,ZS,ZD,hfg,gx,hx,Nd,q⟩:=h
 obtain⟨π,y⟩:=id X
 have sz:sizeLine=16777216:=aay
 have sm:=z.small (by omega)
 have jI:uw D.made.length:=sm.many
 have yK:D.made.length≤4000:=jI
 have es:((gi stores).length:Int)=(stores.length:Int):=by simp
 have ef:((gi files).length:Int)=(files.length:Int):=by simp
 have V_:0<stores.length:=List.length_pos_iff.mpr hs0
 have hf1:0<files.length:=List.length_pos_iff.mpr ZS
 refine⟨_,(de (lu 6 jo (rD (pv 1) (gz iJ (pv 3) (gA gp (by rfl) T.jh aao (a_ (pv 1) d_)))))
   (de (lu 7 jo (rD (pv 2) (gz iJ (gz jX (pv 3) gg) (gA gp (by rfl) T.jh aao (a_ (pv 2) d_)))))
   (de (lu 8 jo (gz iJ (gz jX (pv 3) gg) gg))
   (de (lu 9 jo (gz jX (pv 3) gg))
   (de (Bn (j:=10) xG (gb oG).names [13] jo.nd rfl rfl rfl (ie (yx (pv 0) O.gE O.zS uy hr (a_ (pv 6) (a_ (pv 7) d_)))) rfl (by decide+kernel) (fun _ _ _ _=>(iz (i:=13) jo.nd rfl (Or.inl rfl))) (fun _ _ _ _=>mK) (fun _ _ _ _=>AF (jW oY (pv 13) gg (fun _ _=>rfl))))
   (f_ (ir (JC ((pw_and (ib lX (pv 8) gg (iA _)) (pw_and (kK (pv 5)) (pw_and1 (ib Ba (gA gp (by rfl) T.jh aao (a_ (yx (pv 0) O.gE O.ky i_ hr (a_ (pv 6) d_)) d_)) gg (iA _))))).pt)) (f_ (gM (yx (pv 0) O.gE O.Bv EO hr (a_ (pv 6) (a_ (pv 4) (a_ (rD (yx (pv 0) O.gE O.ky i_ hr (a_ (pv 6) d_)) (gz iJ (pv 9) (gA gp (by rfl) T.jh aao (a_ (yx (pv 0) O.gE O.ky i_ hr (a_ (pv 6) d_)) d_)))) d_)))))) (f_ (ir (JC ((pw_and (ib lX (pv 8) gg (iA _)) (pw_and (ib lX (gz iJ (pv 9) gg) gg (iA _)) (pw_and1 (ib Ba (gA gp (by rfl) T.jh aao (a_ (yx (pv 0) O.gE O.ky i_ hr (a_ (pv 6) d_)) d_)) gg (iA _))))).pt)) (f_ (gM (yx (pv 0) O.gE O.Bw ER hr (a_ (pv 6) (a_ (rD (yx (pv 0) O.gE O.ky i_ hr (a_ (pv 6) d_)) (xq rm gg)) d_))))) (f_ (ir (ib Ba (pv 8) gg (iA _)) (de (lu 11 jo (rD (pv 1) (gz iJ (pv 9) (gA gp (by rfl) T.jh aao (a_ (pv 1) d_)))))
   (de (lu 12 jo (yx (pv 0) O.gE O.ky i_ hr (a_ (pv 11) d_)))
   (f_ (ir (ib Ba (gA gp (by rfl) T.jh aao (a_ (pv 12) d_)) gg (iA _)) (f_ (gM (yx (pv 0) O.gE O.wQ sN hr (a_ (pv 6) (a_ (pv 11) (a_ (rD (pv 12) (gz iJ (gz jX (pv 9) gg) (gA gp (by rfl) T.jh aao (a_ (pv 12) d_)))) d_)))))) g_)))) (f_ (ir (ib lX (gA gp (by rfl) T.jh aao (a_ (yx (pv 0) O.gE O.o6 mZ hr (a_ (pv 6) (a_ (pv 7) d_))) d_)) gg (iA _)) (f_ (gM (yx (pv 0) O.gE O.yk A_ hr (a_ (pv 6) (a_ (pv 4) (a_ (pv 7) (a_ (nE O.By ES hr (a_ (pv 10) (a_ (pv 9) d_))) d_))))))) (f_ (gM (yx (pv 0) O.gE O.Eg Gg hr (a_ (pv 6) (a_ (pv 4) (a_ (pv 7) (a_ (iU (a_ (gz iJ (pv 9) (gA gp (by rfl) T.jh aao (a_ (pv 10) d_))) d_)) d_)))))))))))))))))))),?_⟩
 refine Rc ?_;intro _ _ _ _ _
 have b1:=mod_lt c (stores.length:Int) (by omega)
 obtain⟨st,Xl,MG⟩:=pick (xs:=stores) b1.1 b1.2
 have b2:=mod_lt (c/7) (files.length:Int) (by omega)
 obtain⟨f,MM,hf2⟩:=pick (xs:=files) b2.1 b2.2
 obtain⟨CY,ET⟩:=xc st MG
 have gf:=hfg f hf2
 refine⟨_,rfl,_,rfl,_,rfl,ss,_,rfl,.inl (gF.of KW),_,_,rfl,rfl,(by rw[es];omega),ss,_,_,_,rfl,rfl,gF.of KW,(by rw[es];exact Xl),?_⟩
 refine⟨_,rfl,_,rfl,_,_,rfl,rfl,⟨by decide,by decide⟩,_,rfl,fs,_,rfl,.inl (gF.of vV),_,_,rfl,rfl,(by rw[ef];omega),fs,_,_,_,rfl,rfl,gF.of vV,(by rw[ef];exact MM),?_⟩
 refine⟨_,rfl,_,_,rfl,rfl,⟨by decide,by decide⟩,_,_,rfl,rfl,(by show(0:Int)<6;decide),?_⟩
 refine⟨_,rfl,_,_,rfl,rfl,⟨by decide,by decide⟩,?_⟩
 refine⟨_,rfl,d,π.dx,_,rfl,y.hd,J9,_,rfl,_,rfl,d,D,W,st,f,rfl,X,ET,sm,I,fun h=>absurd CY h,fun _ r H1 s1 tF ⟨vs,CV,E3⟩=>?_⟩
 have E2:=z.row I st f
 have Xm:=aan E3
 let Jv:=fun(i:Nat) (ys:List V) (σ:St) (H4:Hp)=>∃(Xn:Option V),σ=[rr d,rr ss,rr fs,ri c,rs x,some (.bl bk),rs st,rs f,ri (c/11%6),ri (c/66),none,none,none,Xn]∧H4=H1∧ys=gi (((D.row st f).take i).map (·.tx))
 refine⟨r,rfl,⟨_,gF.of CV⟩,jY (K:=K) (a:=r) (xs:=vs) (by omega) Jv
  ⟨none,rfl,rfl,rfl⟩ (by rintro _ _ _ _ _ ⟨_,_,e,e2⟩;rw[e,e2];exact⟨gF.of CV,by rw[So,So,aaB];omega⟩) ?_ ?_⟩
 ·rintro i v ys σ H4 hx ⟨Xn,rfl,rfl,rfl⟩
  obtain⟨ln,vQ,t,rfl,ht⟩:=ix E3 hx
  refine⟨_,rfl,t,_,_,_,rfl,rfl,rg.of ht,ic (j:=2) rfl rfl,_,rfl,rfl,?_⟩
  rw[take_snoc vQ,aat,i8]
  rfl
 rintro ys σ H4 ⟨Xn,rfl,rfl,rfl⟩ Tq SM
 rw[Xm,aak]
 have s2:=s1.new (o:=.lst (gi ((D.row st f).map (·.tx)))) SM
 have Tr:(upd H4 Tq (.lst (gi ((D.row st f).map (·.tx))))) Tq=some (.lst (gi ((D.row st f).map (·.tx)))):=b_
 generalize upd H4 Tq (.lst (gi ((D.row st f).map (·.tx))))=H2 at s2 Tr
 have X2:=X.same s2
 have KY:(((D.row st f).map (·.tx)).length:Int)=((D.row st f).length:Int):=by rw[So]
 have el:∀l:List Str,((gi l).length:Int)=(l.length:Int):=fun l=>by simp
 have hasB:∀u,(D.has u).length≤D.made.length:=fun u=>by
  rw[Dk.GF,So];exact aaG _ _
 have P2:∀u,∀v∈D.has u,v∈D.held u∧v∈D.names:=fun u v hv=>by
  obtain⟨h1,h2⟩:=aam.mp hv
  exact⟨aau h2,h1⟩
 refine⟨fun b H3=>gj H2 H3∧(b=true→D.has st≠[]),?_,?_⟩
 ·refine⟨_,rfl,rfl,_,rfl,?_⟩
  refine kq (fun _=>?_) (fun _=>⟨gj.refl _,fun z=>by cases z⟩)
  refine⟨_,rfl,_,rfl,?_⟩
  refine kq (fun _=>?_) (fun _=>⟨gj.refl _,fun z=>by cases z⟩)
  refine⟨_,rfl,d,π.dx,_,rfl,s2 _ _ y.hd,pb,_,rfl,d,D,W,st,rfl,X2,ET,jI,fun h=>absurd CY h,fun _ p sM=>?_⟩
  refine⟨p,_,rfl,.inl (gF.of b_),_,_,rfl,rfl,_,rfl,(gj.refl H2).new sM,fun h e=>?_⟩
  rw[e] at h
  exact absurd (aau h) (by decide)
 rintro b H3 ⟨ZT,hb⟩
 have s3:=s2.trans ZT
 have X3:=X.same s3
 cases b with
 | true=>
  have sJ:=hb rfl
  have hpos:0<(D.has st).length:=List.length_pos_iff.mpr sJ
  refine l6 ?_
  refine⟨_,rfl,d,π.dx,_,rfl,s3 _ _ y.hd,Mb,_,rfl,_,rfl,_,rfl,d,π.dx,_,rfl,s3 _ _ y.hd,pb,_,rfl,d,D,W,st,rfl,X3,ET,jI,fun h=>absurd CY h,fun _ p sM=>?_⟩
  have s4:=s3.new (o:=.lst (gi (D.has st))) sM
  refine⟨_,rfl,_,rfl,d,π.dx,_,rfl,s4 _ _ y.hd,pb,_,rfl,d,D,W,st,rfl,X.same s4,ET,jI,fun h=>absurd CY h,fun _ p2 AG=>?_⟩
  have s5:=s4.new (o:=.lst (gi (D.has st))) AG
  have b3:=mod_lt (c/66) ((D.has st).length:Int) (by omega)
  obtain⟨o,eo,ho⟩:=pick (xs:=D.has st) b3.1 b3.2
  obtain⟨UL,UM⟩:=P2 st o ho
  refine⟨p2,_,rfl,.inl (gF.of b_),_,_,rfl,rfl,(by rw[el];omega),p,_,_,_,rfl,rfl,gF.of (il AG b_),(by rw[el];exact eo),?_⟩
  refine⟨d,D,W,st,x,o,rfl,X.same s5,I,jI,ET,gx.rb,Nd o UM,fun h=>absurd CY h,fun _ h=>absurd gx h,fun _ _ h=>absurd h hx,fun _ _ _ h=>absurd UL h,fun _ _ _ _ H' X' s'=>?_⟩
  exact q H' _ X' (fun b o e n=>s' b o (s5 _ _ e) n) (I.back CY hx UL) (z.keep st (aaI _) (aaI _)) rfl (.inr (ux D st _))
 | false=>
 refine jz ?_
 refine⟨fun b H4=>gj H3 H4∧(b=true→D.has st≠[]),?_,?_⟩
 ·refine⟨_,rfl,rfl,_,rfl,?_⟩
  refine kq (fun _=>?_) (fun _=>⟨gj.refl _,fun z=>by cases z⟩)
  refine⟨_,rfl,_,_,rfl,rfl,(by show(0:Int)<4;decide),rfl,_,rfl,?_⟩
  refine kq (fun _=>?_) (fun _=>⟨gj.refl _,fun z=>by cases z⟩)
  refine⟨_,rfl,d,π.dx,_,rfl,s3 _ _ y.hd,pb,_,rfl,d,D,W,st,rfl,X3,ET,jI,fun h=>absurd CY h,fun _ p sM=>?_⟩
  refine⟨p,_,rfl,.inl (gF.of b_),_,_,rfl,rfl,_,rfl,(gj.refl H3).new sM,fun h e=>?_⟩
  rw[e] at h
  exact absurd (aau h) (by decide)
 rintro b H4 ⟨P1,hb⟩
 have s4:=s3.trans P1
 have X4:=X.same s4
 cases b with
 | true=>
  have sJ:=hb rfl
  obtain⟨zs,la,QB⟩:∃zs la,D.has st=zs++[la]:=⟨_,_,(List.dropLast_concat_getLast sJ).symm⟩
  have La:=P2 st la (by rw[QB];simp)
  refine l6 ?_
  refine⟨_,rfl,d,π.dx,_,rfl,s4 _ _ y.hd,Mc,_,rfl,_,rfl,d,π.dx,_,rfl,s4 _ _ y.hd,pb,_,rfl,d,D,W,st,rfl,X4,ET,jI,fun h=>absurd CY h,fun _ p sM=>?_⟩
  have s5:=s4.new (o:=.lst (gi (D.has st))) sM
  have Iv:DC (gi (D.has st)) (-1)=some (V.str la):=by rw[QB,←i8];exact DD _ _
  refine⟨_,rfl,p,_,_,_,rfl,rfl,gF.of b_,Iv,?_⟩
  refine⟨d,D,W,st,la,rfl,X.same s5,I,jI,ET,Nd la La.2,Nd,fun h=>absurd CY h,fun _ h=>absurd La.1 h,fun _ _ h=>absurd (I.Bs CY QB) h,fun _ _ _ H' X' s'=>?_⟩
  exact q H' _ X' (fun b o e n=>s' b o (s5 _ _ e) n) (I.drop CY (I.Bs CY QB)) ⟨z.up.many,z.up.iB,z.up.j0⟩ rfl (.inl rfl)
 | false=>
 refine jz ?_
 refine⟨_,rfl,_,_,rfl,rfl,_,rfl,?_⟩
 refine kq (fun _=>?_) (fun _=>?_)
 ·have b3:=mod_lt (c/66) (stores.length:Int) (by omega)
  obtain⟨so,Ij,Nz⟩:=pick (xs:=stores) b3.1 b3.2
  obtain⟨Ts,Tt⟩:=xc so Nz
  refine⟨_,rfl,_,rfl,_,rfl,ss,_,rfl,.inl (gF.of (s4 _ _ KW)),_,_,rfl,rfl,(by rw[es];omega),ss,_,_,_,rfl,rfl,gF.of (s4 _ _ KW),(by rw[es];exact Ij),?_⟩
  refine⟨_,rfl,d,π.dx,_,rfl,s4 _ _ y.hd,pb,_,rfl,d,D,W,so,rfl,X4,Tt,jI,fun h=>absurd Ts h,fun _ p sM=>?_⟩
  have s5:=s4.new (o:=.lst (gi (D.has so))) sM
  refine⟨_,rfl,p,_,rfl,.inl (gF.of b_),_,_,rfl,rfl,_,rfl,?_⟩
  refine kq (fun h=>?_) (fun _=>?_)
  ·have h:0<(D.has so).length:=by have:=aau h;rw[el] at this;omega
   have b4:=mod_lt (c/66/5) ((D.has so).length:Int) (by omega)
   obtain⟨o,eo,ho⟩:=pick (xs:=D.has so) b4.1 b4.2
   obtain⟨UL,UM⟩:=P2 so o ho
   refine⟨_,rfl,d,π.dx,_,rfl,s5 _ _ y.hd,GN,_,rfl,_,rfl,_,rfl,_,rfl,_,_,rfl,rfl,⟨by decide,by decide⟩,_,rfl,p,_,rfl,.inl (gF.of b_),_,_,rfl,rfl,(by rw[el];omega),p,_,_,_,rfl,rfl,gF.of b_,(by rw[el];exact eo),?_⟩
   refine⟨d,D,W,st,so,o,rfl,X.same s5,I,jI,ET,Tt,Nd o UM,fun h=>absurd CY h,fun _ h=>absurd Ts h,fun _ _ h=>absurd UL h,fun _ _ _ cm H6 H' s6 K9 _ X' s'=>?_⟩
   exact q H' _ X' (fun b o e n=>s' b o (by rw[e_ (gh (s6 _ _ (s5 _ _ e)) K9)];exact s6 _ _ (s5 _ _ e)) n) (I.take CY UM) ⟨z.up.many,z.up.iB,z.up.j0⟩ rfl (.inl rfl)
  ·exact q _ D (X.same s5) (lZ.of s5) I z.up rfl (.inl rfl)
 refine⟨_,rfl,d,π.dx,_,rfl,s4 _ _ y.hd,ym,_,rfl,_,rfl,d,D,W,st,f,rfl,X4,ET,sm,I,fun h=>absurd CY h,fun _ p H5 qs ML sM Nl AG=>?_⟩
 have s5:=s4.trans ML
 have Nv:=aan AG
 have Tu:=ML _ _ (P1 _ _ (ZT _ _ Tr))
 refine⟨p,_,rfl,.inl (gF.of Nl),rfl,_,rfl,?_⟩
 refine kq (fun h=>?_) (fun h=>?_)
 ·have hq:D.wA st f=[]:=by
   have:=V.int.inj (aau h)
   rw[←Nv] at this
   exact aaE.mp (by omega)
  refine⟨_,rfl,d,π.dx,_,rfl,s5 _ _ y.hd,HR,_,rfl,_,rfl,_,rfl,_,rfl,_,rfl,Tq,(D.row st f).map (·.tx),c/66,rfl,Tu,by rw[So];omega,fun t H6 ts Qx KU ed=>?_⟩
  have s6:=s5.trans Qx
  have Sj:=ed.len
  rw[So] at Sj
  refine⟨d,t,D,W,st,x,f,ts,rfl,X.same s6,I,sm,aac z.iB (by omega),ET,gx.rb,gf.rb,KU,by omega,fun h=>absurd CY h,fun _ h=>absurd ⟨gx,gf⟩ h,fun _ _ _ h=>absurd h hx,fun _ _ _ _ h=>absurd hq h,fun _ _ _ _ _ h=>absurd h ed.ne,fun _ _ _ _ _ _ H' X' s'=>?_⟩
  refine q H' _ X' (fun b o e n=>s' b o (s6 _ _ e) n) (I.record CY hx hq ts) (z.keep st (HZ ed) (aac vM.2 (by omega))) rfl (.inr (ux D st _))
 ·have hq:D.wA st f≠[]:=fun e=>h (by rw[←Nv,e];rfl)
  have hrpos:0<(D.row st f).length:=by
   rcases Nat.eq_zero_or_pos (D.row st f).length with e|e
   ·exfalso
    apply hq
    show kQ _ (D.row st f)=[]
    rw[aaE.mp e]
    rfl
   ·exact e
  have b3:=mod_lt (c/66) ((D.row st f).length:Int) (by omega)
  refine⟨_,rfl,d,π.dx,_,rfl,s5 _ _ y.hd,OP,_,rfl,_,rfl,_,rfl,_,rfl,_,rfl,Tq,_,rfl,.inl (gF.of Tu),_,_,rfl,rfl,(by rw[el,KY];omega),L2.jI,fun t ht=>?_⟩
  have s6:=s5.new (o:=.lst [V.int (c/66%((gi ((D.row st f).map (·.tx))).length:Int))]) ht
  refine⟨d,t,D,W,st,x,f,[c/66%((gi ((D.row st f).map (·.tx))).length:Int)],rfl,X.same s6,I,sm,ET,gx.rb,gf.rb,b_,by show 1≤1000;decide,fun p hp=>?_,fun h=>absurd CY h,fun _ h=>absurd ⟨gx,gf⟩ h,fun _ _ _ h=>absurd h hx,fun _ _ _ _ h=>absurd ?_ h,(fun _ _ _ _ h=>by cases h),fun _ _ _ _ ok _ H' X' s'=>?_⟩
  ·rw[List.mem_singleton.mp hp,el,KY]
   refine abm (m:=108) ?_ (by decide)
   exact aac (Nat.log2_le_self _) (by omega)
  ·rw[el,KY]
   exact⟨⟨b3.1,b3.2⟩,trivial⟩
  ·refine q H' _ X' (fun b o e n=>s' b o (s6 _ _ e) n) (I.cut CY hx fun m hm=>?_) (z.keep st (aaI _) (aac (List.length_filterMap_le _ _) (by show 1≤_;omega))) rfl (.inr (ux D st _))
   obtain⟨pl,_,oh⟩:=ab1.mp hm
   obtain⟨l',Il,rfl⟩:=Option.map_eq_some_iff.mp oh
   exact aaa (Vs Il)
theorem mz{K:Qqy}{H H':Hp}{a:Addr}{xs:List V}(h:gF K H a xs)(s:gj H H'):gF K H' a xs:=by
 rcases h with(h|⟨u,h⟩)|h
 ·exact .inl (.inl (s _ _ h))
 ·exact .inl (.inr ⟨u,s _ _ h⟩)
 ·exact .inr h
noncomputable abbrev mq(ns:List Int)(i:Int):Int:=cellAt ns i%20736
noncomputable def lV(ns:List Int):List Str:=[nameOf (mq ns 0) 0,nameOf (mq ns 0) 1,nameOf (mq ns 0) 2]
noncomputable def uH(ns:List Int):List Str:=[nameOf (mq ns 1) 0,nameOf (mq ns 1) 1]
theorem H_(ns:List Int):(lV ns).Nodup:=by
 have h:∀i j:Int,0≤i→i<36→0≤j→j<36→i≠j→nameOf (mq ns 0) i≠nameOf (mq ns 0) j:=fun i j a b c d e z=>e (vN a b c d z)
 unfold lV
 simp only [aaX,Wg,abL,or_false,not_or,abg,and_true]
 exact⟨⟨h 0 1 (by decide) (by decide) (by decide) (by decide) (by decide),h 0 2 (by decide) (by decide) (by decide) (by decide) (by decide)⟩,h 1 2 (by decide) (by decide) (by decide) (by decide) (by decide),by simp⟩
theorem sH{ns:List Int}:∀s∈lV ns,Good s:=by
 intro s hs
 unfold lV at hs
 simp only [Wg,abL,or_false] at hs
 rcases hs with rfl|rfl|rfl<;>exact lq _ _
theorem Kj{ns:List Int}:∀s∈uH ns,Good s:=by
 intro s hs
 unfold uH at hs
 simp only [Wg,abL,or_false] at hs
 rcases hs with rfl|rfl<;>exact lq _ _
structure Built(A:Ad)(ns:List Int)(n:Nat)(H H':Hp)(b d ss fs:Addr)(D:Dk)(W:Addr→Prop):Prop where
 same:gj H H'
 fresh:H b=none
 at_:H' b=some (.lst [.ref d,.ref ss,.ref fs])
 st:H' ss=some (.lst (gi (lV ns)))
 fl:H' fs=some (.lst (gi (uH ns)))
 VJ:ig A H' d D W
 own:∀x,W x→H x=none
 inv:Inv D
 sz:Sz n D
 stores:D.stores=lV ns
 names:∀x∈D.names,∃j:Nat,j<n∧x=nameOf (mq ns 3) j
def O5(K:PySem.W.Frag)(A:Ad):Sp:=fun vs H Q _=>∃(a:Addr)(ns:List Int)(first:Int)(n:Nat)(bk:Bool),vs=[.ref a,.int first,.int n,.bl bk]∧gF K H a (ns.map V.int)∧ns.length≤1000∧0≤first∧first≤1000∧n≤35∧∀b d ss fs D W H',Built A ns n H H' b d ss fs D W→Q (.ref b) H'
theorem Mp(T:Txt mg)(O:Ok K mg A):ij P w K mg base l5 8 A.yf A.yg ["script","first","most","backs"] (O5 K A):=by
 have yM:=@CF P w K mg base A T O
 have qH:=(@Ez P w K mg base A T O).Fo
 have mJ:=@GX P w K mg base A T O
 have iF:=@GW P w K mg base A T O
 have sO:=@GY P w K mg base A T O
 have EU:=@Mo P w K mg base A T O
 refine O.BA.f.p_ jb fun jm A0 outer s H vs Q E hr h=>?_
 obtain⟨a,ns,first,n,bk,rfl,ha,Lb,ZS,hf1,hn,q⟩:=h
 have sz:sizeLine=16777216:=aay
 refine⟨_,(de (lu 4 jb (IK O.OC yM (hr.mono (by decide)) rfl O.OD O.tU.b .nil oy))
   (de (Bn (j:=5) rP (gb mH).names [8] jb.nd rfl rfl rfl (j7 rfl T.kX (a_ gg d_)) rfl (by decide+kernel) (fun _ _ _ _=>(iz (i:=8) jb.nd rfl (Or.inl rfl))) (fun _ _ _ _=>mK) (fun _ _ _ _=>AF (nE O.p6 mJ hr (a_ (gz iJ (nE O.iX iF hr (a_ (pv 0) (a_ gg d_))) gg) (a_ (pv 8) d_)))))
   (de (Bn (j:=6) rP (gb mH).names [8] jb.nd rfl rfl rfl (j7 rfl T.kX (a_ gg d_)) rfl (by decide+kernel) (fun _ _ _ _=>(iz (i:=8) jb.nd rfl (Or.inl rfl))) (fun _ _ _ _=>mK) (fun _ _ _ _=>AF (nE O.p6 mJ hr (a_ (gz iJ (nE O.iX iF hr (a_ (pv 0) (a_ gg d_))) gg) (a_ (pv 8) d_)))))
   (de (iu aap rfl (ie (pv 5)) (rf 7 jb) (f_ (gM (yx (pv 4) O.gE O.ur qH hr (a_ (pv 7) d_)))))
   (de (iu aap rfl (j7 rfl T.kX (a_ (pv 2) d_)) (rf 8 jb) (de (lu 9 jb (nE O.iX iF hr (a_ (pv 0) (a_ (gz iI (pv 1) (pv 8)) d_))))
   (de (qd (ir (ib QW (gz iI (pv 1) (pv 8)) (gA gp (by rfl) T.jh aao (a_ (pv 0) d_)) (iA _)) (f_ (lu 9 jb (nE O.wR sO hr (a_ (nE O.iX iF hr (a_ (pv 0) (a_ gg d_))) (a_ (pv 8) (a_ gg d_)))))) g_))
   (f_ (gM (nE O.Bz EU hr (a_ (pv 4) (a_ (pv 5) (a_ (pv 6) (a_ (pv 9) (a_ (nE O.p6 mJ hr (a_ (gz iJ (nE O.iX iF hr (a_ (pv 0) (a_ gg d_))) gg) (a_ (pv 8) d_))) (a_ (pv 3) d_))))))))))))
   (f_ (gR (iU (a_ (pv 4) (a_ (pv 5) (a_ (pv 6) d_))))))))))),?_⟩
 refine Rc ?_;intro _ _ _ _ _
 intro d px nd W9 nxd
 refine⟨d,px,rfl,b_,fun H1 W X1 hW k1=>⟨rfl,?_⟩⟩
 have s0:gj H (upd (upd H px (.own d)) d (.ins A.gr px [])):=fun b o e=>by rw[e_ (gh e nd),e_ (gh e W9)];exact e
 have s1:gj H H1:=fun b o e=>k1 b o (s0 b o e) (gh e nd)
 have hW0:∀b,W b→H b=none:=fun b hb=>s0.free (hW b hb)
 refine⟨_,rfl,by decide,by decide,?_⟩
 let Jv:=fun(m:Nat) (ys:List V) (σ:St) (H2:Hp)=>∃(v8:Option V),σ=[rr a,ri first,ri n,some (.bl bk),rr d,none,none,none,v8,none]∧H2=H1∧ys=gi ((List.range m).map fun(j:Nat)=>nameOf (mq ns 0) j)
 refine rB (n:=3) (by decide) Jv ⟨none,rfl,rfl,rfl⟩ (by rintro _ _ _ _ ⟨_,_,_,e⟩;rw[e];simp) ?_ ?_
 ·rintro m ys σ H2 hm ⟨v8,rfl,rfl,rfl⟩
  refine⟨_,rfl,a,ns,0,rfl,mz ha s1,by decide,_,_,rfl,rfl,(by show(0:Int)<20736;decide),_,rfl,_,_,rfl,?_⟩
  refine⟨_,rfl,rfl,?_⟩
  rw[acb,aat,←mF]
  show _++[V.str (nameOf (mq ns 0) (0+(m:Int)))]=_
  rw[Int.zero_add]
  rfl
 rintro ys σ H2 ⟨v8,rfl,rfl,rfl⟩ ss KW
 have s2:=s1.new (o:=.lst (gi (lV ns))) KW
 have X2:=X1.same ((gj.refl H2).new (o:=.lst (gi (lV ns))) KW)
 have Tv:(upd H2 ss (.lst (gi (lV ns)))) ss=some (.lst (gi (lV ns))):=b_
 have Xl:gi ((List.range 3).map fun(j:Nat)=>nameOf (mq ns 0) j)=gi (lV ns):=rfl
 rw[Xl]
 generalize upd H2 ss (.lst (gi (lV ns)))=H3 at s2 X2 Tv
 refine⟨_,rfl,by decide,by decide,?_⟩
 let Jv:=fun(m:Nat) (ys:List V) (σ:St) (H2:Hp)=>∃(v8:Option V),σ=[rr a,ri first,ri n,some (.bl bk),rr d,rr ss,none,none,v8,none]∧H2=H3∧ys=gi ((List.range m).map fun(j:Nat)=>nameOf (mq ns 1) j)
 refine rB (n:=2) (by decide) Jv ⟨none,rfl,rfl,rfl⟩ (by rintro _ _ _ _ ⟨_,_,_,e⟩;rw[e];simp) ?_ ?_
 ·rintro m ys σ H2 hm ⟨v8,rfl,rfl,rfl⟩
  refine⟨_,rfl,a,ns,1,rfl,mz ha s2,by decide,_,_,rfl,rfl,(by show(0:Int)<20736;decide),_,rfl,_,_,rfl,?_⟩
  refine⟨_,rfl,rfl,?_⟩
  rw[acb,aat,←mF]
  show _++[V.str (nameOf (mq ns 1) (0+(m:Int)))]=_
  rw[Int.zero_add]
  rfl
 rintro ys σ H4 ⟨v8,rfl,rfl,rfl⟩ fs vV
 have MM:gi ((List.range 2).map fun(j:Nat)=>nameOf (mq ns 1) j)=gi (uH ns):=rfl
 rw[MM]
 have s3:=s2.new (o:=.lst (gi (uH ns))) vV
 have X3:=X2.same ((gj.refl H4).new (o:=.lst (gi (uH ns))) vV)
 have P4:=il (u:=.lst (gi (uH ns))) vV Tv
 have Tw:(upd H4 fs (.lst (gi (uH ns)))) fs=some (.lst (gi (uH ns))):=b_
 generalize upd H4 fs (.lst (gi (uH ns)))=H5 at s3 X3 P4 Tw
 dsimp only [k7];refine Ht ?_;intro _
 let Jv:=fun(i:Nat) (σ:St) (H6:Hp)=>∃(v7:Option V)(D:Dk)(W:Addr→Prop),σ=[rr a,ri first,ri n,some (.bl bk),rr d,rr ss,rr fs,v7,none,none]∧gj H H6∧H6 ss=some (.lst (gi (lV ns)))∧H6 fs=some (.lst (gi (uH ns)))∧ig A H6 d D W∧(∀b,W b→H b=none)∧Inv D∧D.made=[]∧D.stores=(lV ns).take i
 refine⟨_,rfl,ss,rfl,⟨_,gF.of P4⟩,iH (K:=K) (a:=ss) (xs:=gi (lV ns)) Jv
  ⟨none,T5,W,rfl,s3,P4,Tw,X3,hW0,VI,rfl,rfl⟩ (by rintro _ _ _ _ ⟨_,_,_,_,_,e,_⟩;exact gF.of e) ?_ ?_⟩
 ·rintro i v σ H6 hx ⟨v7,D,W,rfl,s6,h1,h2,X6,Tx,I6,QC,P5⟩
  obtain⟨st,xc,rfl⟩:=jM hx
  have g:=sH st (Vs xc)
  have Nj:i<3:=(List.getElem?_eq_some_iff.mp xc).1
  have Gb:st∉D.stores:=fun hm=>by
   rw[P5] at hm
   obtain⟨j,hj⟩:=aaL.mp hm
   have Ik:j<i:=by have:=(List.getElem?_eq_some_iff.mp hj).1;rw[aaB] at this;omega
   rw[abN,aaq Ik] at hj
   have:=(abY (List.getElem?_eq_some_iff.mp hj).1 (H_ ns)).mp (hj.trans xc.symm)
   omega
  obtain⟨π,y⟩:=id X6
  refine⟨_,rfl,d,π.dx,_,rfl,y.hd,Ew,_,rfl,d,D,W,st,rfl,X6,g.rb,?_,fun h=>absurd g h,fun _ h=>absurd h Gb,fun _ _ H7 W7 X7 s7 hW7=>?_⟩
  ·rw[P5,aaB];omega
  ·refine⟨_,D.begin st,W7,rfl,fun b o e=>?_,s7 _ _ h1 (X6.lst h1),s7 _ _ h2 (X6.lst h2),X7,fun b hb=>?_,I6.begin Gb,QC,?_⟩
   ·exact s7 b o (s6 _ _ e) (fun hb=>by rw[Tx b hb] at e;cases e)
   ·rcases hW7 b hb with h|h
    ·exact Tx b h
    ·exact s6.free h
   ·show D.stores++[st]=_
    rw[P5,take_snoc xc]
 rintro σ H6 ⟨v7,D0,W,rfl,s6,h1,h2,X6,Tx,I6,QC,P5⟩
 have P5:D0.stores=lV ns:=by rw[P5,So];exact aak
 refine⟨_,rfl,_,rfl,by omega,by omega,?_⟩
 rw[abS]
 let Jv:=fun(i:Nat) (σ:St) (H7:Hp)=>∃(v8 v9:Option V)(D:Dk),σ=[rr a,ri first,ri n,some (.bl bk),rr d,rr ss,rr fs,v7,v8,v9]∧gj H H7∧H7 ss=some (.lst (gi (lV ns)))∧H7 fs=some (.lst (gi (uH ns)))∧ig A H7 d D W∧Inv D∧Sz i D∧D.stores=lV ns∧∀x∈D.names,∃j:Nat,j<i∧x=nameOf (mq ns 3) j
 refine k8 Jv
  ⟨none,none,D0,rfl,s6,h1,h2,X6,I6,⟨by rw[QC];exact Vx _,by rw[QC];exact Vx _,by rw[QC];exact Vx _⟩,P5,fun x hx=>by unfold Dk.names at hx;rw[QC] at hx;cases hx⟩ ?_ ?_
 ·rintro i σ H7 hi ⟨v8,v9,D,rfl,s7,k1,k2,X7,I7,z7,UN,NA⟩
  rw[show(0:Int)+(i:Int)=(i:Int) by omega]
  refine⟨_,rfl,_,rfl,_,rfl,_,_,rfl,rfl,a,ns,_,rfl,mz ha s7,by omega,?_⟩
  refine⟨fun σ H8=>∃c:Int,σ=[rr a,ri first,ri n,some (.bl bk),rr d,rr ss,rr fs,v7,ri i,ri c]∧H8=H7,?_,?_⟩
  ·refine⟨_,rfl,_,rfl,_,_,rfl,rfl,_,rfl,a,_,rfl,.inl (mz ha s7),_,_,rfl,rfl,_,rfl,?_⟩
   refine kq (fun _=>?_) (fun _=>⟨_,rfl,rfl⟩)
   refine⟨_,rfl,a,ns,2,rfl,mz ha s7,by decide,_,rfl,_,_,_,rfl,by decide,by omega,by omega,fun x _ _=>⟨x,rfl,rfl⟩⟩
  rintro σ H8 ⟨c,rfl,rfl⟩
  refine⟨_,rfl,_,rfl,_,rfl,_,rfl,_,rfl,a,ns,3,rfl,mz ha s7,by decide,_,_,rfl,rfl,(by show(0:Int)<20736;decide),_,rfl,_,_,rfl,_,rfl,?_⟩
  have gx:=lq (mq ns 3) (i:Int)
  refine⟨d,ss,fs,D,W,i,lV ns,uH ns,c,_,bk,rfl,X7,I7,z7,by omega,k1,(by unfold lV;simp),(by show 3≤1000;decide),fun t ht=>⟨by rw[UN];exact ht,(sH t ht).rb⟩,k2,(by unfold uH;simp),(by show 2≤1000;decide),Kj,gx,fun hm=>?_,fun t ht=>?_,fun H9 D' X9 s9 I9 z9 hs9 hn9=>?_⟩
  ·obtain⟨j,hj,e⟩:=NA _ hm
   have:=vN (by omega) (by omega) (by omega) (by omega) e
   omega
  ·obtain⟨j,hj,e⟩:=NA _ ht
   rw[e];exact(lq _ _).rb
  ·refine⟨_,_,D',rfl,fun b o e=>s9 b o (s7 _ _ e) (fun hb=>by rw[Tx b hb] at e;cases e),s9 _ _ k1 (X7.lst k1),s9 _ _ k2 (X7.lst k2),X9,I9,z9,hs9.trans UN,fun t ht=>?_⟩
   rcases hn9 with e|e
   ·rw[e] at ht
    obtain⟨j,hj,e⟩:=NA _ ht
    exact⟨j,by omega,e⟩
   ·rw[e] at ht
    rcases Wl.mp ht with ht|ht
    ·obtain⟨j,hj,e⟩:=NA _ ht
     exact⟨j,by omega,e⟩
    ·exact⟨i,by omega,List.mem_singleton.mp ht⟩
 ·rintro σ H7 ⟨v8,v9,D,rfl,s7,k1,k2,X7,I7,z7,UN,NA⟩
  refine⟨_,rfl,_,rfl,_,rfl,L2.jI,fun b hb=>?_⟩
  have s8:=s7.new (o:=.lst [.ref d,.ref ss,.ref fs]) hb
  exact q b d ss fs D W _ ⟨s8,s7.free hb,b_,il hb k1,il hb k2,X7.same ((gj.refl H7).new hb),Tx,I7,z7,UN,NA⟩
end
inductive Dv where
 | o
 | s (x:Str)
 | i (n:Int)
 | l (xs:List Dv)
 | t (xs:List Dv)
inductive Rep(H:Hp):Nat→V→Dv→Prop
 | o {n}:Rep H n .jl .o
 | s {n x}:Rep H n (.str x) (.s x)
 | i {n x}:Rep H n (.int x) (.i x)
 | l {n a vs xs} (h:H a=some (.lst vs)) (hl:vs.length=xs.length) (hr:∀(j:Nat) u d,vs[j]?=some u→xs[j]?=some d→Rep H n u d):Rep H (n+1) (.ref a) (.l xs)
 | t {n a vs xs} (h:H a=some (.tup vs)) (hl:vs.length=xs.length) (hr:∀(j:Nat) u d,vs[j]?=some u→xs[j]?=some d→Rep H n u d):Rep H (n+1) (.ref a) (.t xs)
theorem Rep.same{H H':Hp}{n:Nat}{v:V}{d:Dv}(r:Rep H n v d)(s:gj H H'):Rep H' n v d:=by
 induction r with
 | o=>exact .o
 | s=>exact .s
 | i=>exact .i
 | l h hl _ ih=>exact .l (s _ _ h) hl ih
 | t h hl _ ih=>exact .t (s _ _ h) hl ih
theorem Rep.up{H:Hp}{n:Nat}{v:V}{d:Dv}(r:Rep H n v d):Rep H (n+1) v d:=by
 induction r with
 | o=>exact .o
 | s=>exact .s
 | i=>exact .i
 | l h hl _ ih=>exact .l h hl ih
 | t h hl _ ih=>exact .t h hl ih
theorem Rep.mono{H:Hp}{n m:Nat}{v:V}{d:Dv}(r:Rep H n v d)(h:n≤m):Rep H m v d:=by
 obtain⟨k,rfl⟩:=Nat.exists_eq_add_of_le h
 induction k with
 | zero=>exact r
 | succ k ih=>exact(ih (by omega)).up
theorem all_true(n:Nat):((List.range n).all fun _=>true)=true:=by rw[abr];intro x _;rfl
theorem Rep.eq{K:Qqy}{H:Hp}{n:Nat}{u v:V}{d:Dv}(r1:Rep H n u d):Rep H n v d→pA K H n u v true:=by
 induction r1 generalizing v with
 | @o n=>
  intro r2
  cases r2
  exact pA.flat (K:=K) (H:=H) (n:=n) (x:=V.jl) (y:=V.jl) rfl rfl
 | @s n x=>
  intro r2
  cases r2
  have:=pA.Jd (K:=K) (H:=H) (n:=n) x x
  rw[Vy rfl] at this
  exact this
 | @i n x=>
  intro r2
  cases r2
  have:=pA.Oe (K:=K) (H:=H) (n:=n) x x
  rw[Vy rfl] at this
  exact this
 | @l n a vs xs h hl hr ih=>
  intro r2
  cases r2 with
  | @l _ c ws _ h' Il Xo=>
   have:=pA.lists (K:=K) (H:=H) (n:=n) (e:=fun _=>true) (gF.of h) (gF.of h') (hl.trans Il.symm) fun j u v hu hv=>by
    have hj:j<xs.length:=by rw[←hl];exact(List.getElem?_eq_some_iff.mp hu).1
    exact ih j u _ hu (Su hj) (Xo j v _ hv (Su hj))
   rw[all_true] at this
   exact this
 | @t n a vs xs h hl hr ih=>
  intro r2
  cases r2 with
  | @t _ c ws _ h' Il Xo=>
   have:=pA.q9 (K:=K) (H:=H) (n:=n) (e:=fun _=>true) (rg.of h) (rg.of h') fun j u v hu hv=>by
    have hj:j<xs.length:=by rw[←hl];exact(List.getElem?_eq_some_iff.mp hu).1
    exact ih j u _ hu (Su hj) (Xo j v _ hv (Su hj))
   rw[all_true,hl,Il,ace,Bool.and_true] at this
   exact this
theorem Rep.BK{H:Hp}{n:Nat}{a:Addr}{β:Type}{F:V→β→Prop}{g:β→Dv}{vs:List V}{xs:List β}(h:H a=some (.lst vs))(p:Paired F vs xs)(hF:∀v x,F v x→Rep H n v (g x)):Rep H (n+1) (.ref a) (.l (xs.map g)):=by
 refine .l h (by rw[So];exact aan p) fun j u d hu hd=>?_
 obtain⟨x,hx,f⟩:=ix p hu
 rw[aae,hx] at hd
 cases hd
 exact hF u x f
theorem Rep.two{H:Hp}{a:Addr}{n:Nat}{u v:V}{x y:Dv}(h:H a=some (.lst [u,v]))(h1:Rep H n u x)(h2:Rep H n v y):Rep H (n+1) (.ref a) (.l [x,y]):=by
 refine .l h rfl fun j u' d hu hd=>?_
 match j with
 | 0=>cases hu;cases hd;exact h1
 | 1=>cases hu;cases hd;exact h2
 | j+2=>simp at hu
noncomputable def Mq(row:List Ln):Dv:=.l (row.map fun l=>.t [.s l.nm.1,.i l.nm.2,.s l.tx])
noncomputable def T6(qs:List (Nat×Nat)):Dv:=.l (qs.map fun q=>.t [.i q.1,.i q.2])
theorem Kb.rep{H:Hp}{a:Addr}{row:List Ln}(x:Kb H a row):Rep H 2 (.ref a) (Mq row):=by
 obtain⟨vs,h,p⟩:=x
 refine Rep.BK h p fun v l ⟨t,e,ht⟩=>?_
 subst e
 refine .t ht rfl fun j u d hu hd=>?_
 match j with
 | 0=>cases hu;cases hd;exact .s
 | 1=>cases hu;cases hd;exact .i
 | 2=>cases hu;cases hd;exact .s
 | j+3=>simp at hu
theorem Ia{H:Hp}{a:Addr}{vs:List V}{qs:List (Nat×Nat)}(h:H a=some (.lst vs))(x:i0 H qs vs):Rep H 2 (.ref a) (T6 qs):=by
 refine .l h (by rw[So];exact(aan x).symm) fun j u d hu hd=>?_
 obtain⟨q,hq,b,e,hb⟩:=lh x hu
 subst e
 rw[aae,hq] at hd
 cases hd
 refine .t hb rfl fun j u d hu hd=>?_
 match j with
 | 0=>cases hu;cases hd;exact .i
 | 1=>cases hu;cases hd;exact .i
 | j+2=>simp at hu
noncomputable def G0(D:Dk)(s:Str)(files:List Str):Dv:=.l (files.map fun f=>.l [Mq (D.row s f),T6 (D.wA s f)])
end PK
namespace L2
open PySem PySem.Spec PyProof.Rows
def EC(z:Str)(names:List (Str×NameKind)):Prop:=names.filter (fun y=>y.2 ==.cell)=[(z,.cell)]
theorem sI:∀{names:List (Str×NameKind)} {n:Nat} {acc:List (Str×Addr)} {h:Heap},names.filter (fun y=>y.2 ==NameKind.cell)=[]→cellsFrom n names acc=acc∧pushCells h names=h
 | [],_,_,_,_=>⟨rfl,rfl⟩
 | (x,k)::r,n,acc,h,e=>by
  by_cases hk:(k ==NameKind.cell)=true
  ·rw[abh,aaq hk] at e;cases e
  ·rw[abh,aal hk] at e
   unfold cellsFrom pushCells
   rw[aal hk,aal hk]
   exact sI e
theorem pe{z:Str}:∀{names:List (Str×NameKind)} {n:Nat} {acc:List (Str×Addr)} {h:Heap},EC z names→cellsFrom n names acc=(z,n)::acc∧pushCells h names=h.push {cls:=.type "cell",data:=.cell none}
 | [],_,_,_,e=>nomatch e
 | (x,k)::r,n,acc,h,e=>by
  unfold EC at e
  by_cases hk:(k ==NameKind.cell)=true
  ·rw[abh,aaq hk] at e
   injection e with e1 e2
   injection e1 with e3 _
   subst e3
   unfold cellsFrom pushCells
   rw[aaq hk,aaq hk]
   exact sI e2
  ·rw[abh,aal hk] at e
   unfold cellsFrom pushCells
   rw[aal hk,aal hk]
   exact pe e
theorem FT{M:Model}{A:Around}{E:Qqq}{s:Shared}{scope:Scope}{globals:Addr}{cl:List (Str×Addr)}{qual:Str}{func:Option Addr}{code:Value}{env:Env}{bl:Addr}{Q:Env→Shared→Prop}{z:Str}(hz:EC z scope.names)
  (hQ:Q (newEnv scope s.heap.objs.size globals ((z,s.heap.objs.size+1)::cl) qual func code (some env) bl) {s with heap:=(s.heap.push {cls:=.type "dict",data:=.dict #[]}).push {cls:=.type "cell",data:=.cell none}}) :
  wpAny M A (newFunctionEnv scope globals cl [] qual func code (some env) bl) Q E s:=by
 simp only [newFunctionEnv,Option.isSome_some,if_true]
 refine Ss (wpAny_alloc ?_)
 refine Ss (wpAny_layCells _ (fun name kind cells=>by cases hkc:kind ==NameKind.cell<;>simp[hkc]) _ _ _ _ ?_)
 rw[(pe (h:=s.heap) hz).1,(pe (n:=0) (acc:=[]) hz).2,show({s with heap:=s.heap.push {cls:=.type "dict",data:=.dict #[]}}:Shared).heap.objs.size=s.heap.objs.size+1 from abD ..]
 exact Ss (aai (aai hQ))
noncomputable def Kk(z:Str)(N:List Str)(out:List (Str×NameKind))(is:List Nat)(names:List (Str×NameKind)):Bool:=
 (names.all fun y=>(y.2 != .free||y.1 != z&&(out.lookup y.1 ==some .cell||out.lookup y.1 ==some .free))&&(y.2 != .local||names.lookup y.1 ==some .local))&&
 (N.zipIdx.all fun p=>names.lookup p.1 != some .local&&names.lookup p.1 != some .cell||is.contains p.2)&&decide (names.filter (fun y=>y.2 ==.cell)=[(z,.cell)])
structure tX(z:Str)(N:List Str)(out:List (Str×NameKind))(is:List Nat)(names:List (Str×NameKind)):Prop where
 one:EC z names
 free:∀y∈names,y.2=.free→y.1≠z∧(out.lookup y.1=some .cell∨out.lookup y.1=some .free)
 loc:∀y∈names,y.2=.local→names.lookup y.1=some .local
 own:∀(i:Nat)(x:Str),N[i]?=some x→names.lookup x=some .local∨names.lookup x=some .cell→i∈is
theorem tX.of{z:Str}{N:List Str}{out:List (Str×NameKind)}{is:List Nat}{names:List (Str×NameKind)}(h:Kk z N out is names=true):tX z N out is names:=by
 unfold Kk at h
 rw[aaT,aaT] at h
 obtain⟨⟨h1,h2⟩,h3⟩:=h
 have a:=abr.mp h1
 have b:=abr.mp h2
 refine⟨(by unfold EC;exact aau h3),fun y hy e=>?_,fun y hy e=>?_,fun i x hi e=>?_⟩
 ·have q:=a y hy
  simp only [e,aaT,abH,abU,aaO,false_or,abK,bne_iff_ne] at q
  exact q.1
 ·have q:=a y hy
  simp only [e,aaT,abH,abU,aaO,false_or,abK] at q
  exact q.2
 ·have hm:(x,i)∈N.zipIdx:=by
   rw[aaL]
   exact⟨i,by rw[List.getElem?_zipIdx,hi];simp⟩
  have q:=b (x,i) hm
  rcases e with e|e<;>
  ·simp only [e,aaT,abH,abU,aaO,false_or,false_and,and_false] at q
   exact List.contains_iff_mem.mp q
theorem tX.cell{z:Str}{N:List Str}{out:List (Str×NameKind)}{is:List Nat}{names:List (Str×NameKind)}(h:tX z N out is names){x:Str}(hm:(x,NameKind.cell)∈names):x=z:=by
 have q:(x,NameKind.cell)∈names.filter fun y=>y.2 ==.cell:=aam.mpr ⟨hm,rfl⟩
 rw[show names.filter (fun y=>y.2 ==.cell)=[(z,.cell)] from h.one] at q
 cases List.mem_singleton.mp q
 rfl
theorem lkZ{z x:Str}{c d:Addr}{cl:List (Str×Addr)}(h:((z,c)::cl).lookup x=some d):x=z∧d=c∨cl.lookup x=some d:=by
 rw[abq] at h
 cases e:x ==z with
 | true=>rw[e] at h;cases h;exact .inl ⟨eq_of_beq e,rfl⟩
 | false=>rw[e] at h;exact .inr h
theorem ED{z:Str}{c:Addr}{cl:List (Str×Addr)}:((z,c)::cl).lookup z=some c:=by rw[abq,ace]
theorem Kl{z x:Str}{c:Addr}{cl:List (Str×Addr)}(h:x≠z):((z,c)::cl).lookup x=cl.lookup x:=by rw[abq,beq_eq_false_iff_ne.mpr h]
noncomputable def Cx.lT(X:Cx)(scope:Scope)(z:Str)(c:Addr)(C:Addr)(s:Shared)(H:Hp)(ex:List Addr):Cx:=
 {X with env:=compEnvC scope ((z,c)::i5 X.env.cells scope.names []) C X.env,s₀:=s,H₀:=H,outer:=X.stack,ex:=ex,fn:=fun x=>x ==z,pn:=[],xe:=Io}
theorem Km{X:Cx}{scope:Scope}{z:Str}{c C:Addr}{s:Shared}{H:Hp}{ex:List Addr}:(X.lT scope z c C s H ex).K=X.K:=rfl
section
variable{X:Cx}{c_:Qqz}{σ:St}{H:Hp}{s:Shared}{scope:Scope}{is:List Nat}{ex:List Addr}{c C:Addr}{z:Str}
theorem w_(I:Inv X c_ σ H s)(hs:tX z X.N X.env.scope.names is scope.names):∀y∈scope.names,y.2=.free→∃c,X.env.cells.lookup y.1=some c:=fun y hy e=>I.ok.has y.1 (hs.free y hy e).2
theorem lr(I:Inv X c_ σ H s)(hs:tX z X.N X.env.scope.names is scope.names){x:Str}{d:Addr}(h:((z,c)::i5 X.env.cells scope.names []).lookup x=some d):x=z∧d=c∨X.env.cells.lookup x=some d:=
 (lkZ h).imp id fun h=>(sU (cs:=[]) (w_ I hs) h).resolve_left fun q=>by cases q
theorem xa(I:Inv X c_ σ H s){x:Str}{d:Addr}(h:X.env.cells.lookup x=some d):d<s.heap.objs.size:=let ⟨_,q⟩:=I.cell x d h;q.lt
theorem Ib(I:Inv X c_ σ H s)(hs:tX z X.N X.env.scope.names is scope.names)(hk:scope.kind=.function)(hC:s.heap.objs.size≤C)(hc:s.heap.objs.size≤c)(hf:∀b∈ex,qb X c_ H b)(ho:∀b∈ex,∃o,s.heap.get? b=some o) :
  (X.lT scope z c C s H ex).Ok where
 mod:=I.ok.mod
 kind:=hk
 glob:=I.ok.glob
 blt:=I.ok.blt
 above:=hC
 inj:=fun x y d h1 h2=>by
  rcases lr I hs h1 with⟨rfl,rfl⟩|h1<;>rcases lr I hs h2 with⟨h3,h4⟩|h2
  ·exact h3.symm
  ·exact absurd (xa I h2) (Nat.not_lt.mpr hc)
  ·exact absurd (xa I h1) (Nat.not_lt.mpr (h4▸hc))
  ·exact I.ok.inj x y d h1 h2
 has:=fun x hx=>by
  have hx:(relabel scope X.env).names.lookup x=some .cell∨(relabel scope X.env).names.lookup x=some .free:=hx
  rw[jf] at hx
  cases e:scope.names.lookup x with
  | none=>
   rw[e] at hx
   rcases hx with q|q<;>cases q
  | some k=>
   have hm:(x,k)∈scope.names:=aa6 e
   rw[e] at hx
   cases k with
   | free=>
    obtain⟨d,q⟩:=pz (cells:=X.env.cells) (cs:=[]) hm
    exact⟨d,(Kl (hs.free _ hm rfl).1).trans q⟩
   | cell=>
    cases hs.cell hm
    exact⟨c,ED⟩
   | _=>rcases hx with q|q<;>simp at q
 NI:=fun x d h1 h2=>by
  rcases lr I hs h2 with⟨_,rfl⟩|h2
  ·exact hc
  ·have hx:x=z:=eq_of_beq h1
   have h3:((z,c)::i5 X.env.cells scope.names []).lookup x=some d:=by assumption
   rw[hx,ED] at h3
   cases h3
   exact hc
 hd:=I.ok.hd
 frames:=I.ok.frames
 P9:=.inl rfl
 TV:=fun b hb=>by
  obtain⟨o,e⟩:=ho b hb
  refine⟨aaN (aas (aar e) hC),fun x d h=>?_⟩
  rcases lr I hs h with⟨_,rfl⟩|h
  ·exact ab5 (aas (aar e) hc)
  ·exact(hf b hb).2.2.2.2.1 x d h
 bs:=I.bs
 IB:=aac I.ok.IB I.sz
 q_:=fun b o e hb=>by
  rcases(hf b hb).2.2.2.1 with q|q
  ·exact I.ok.q_ b o e q
  ·exact absurd (aas (aar (I.ok.bs b o e).1) q) (aa4 _)
 G9:=fun b hb hm=>by
  rcases Wg.mp (I.qa b hm) with q|q
  ·exact(hf b hb).2.1 q
  ·exact(hf b hb).2.2.1 q
 tZ:=I.stack
 Li:=I.yO
theorem FU{h':Heap}{t':Nat}{pl:Qqz}(I:Inv X c_ σ H s)(hs:tX z X.N X.env.scope.names is scope.names)(hk:scope.kind=.function)(hC:s.heap.objs.size≤C)(hc:s.heap.objs.size≤c)(hf:∀b∈ex,qb X c_ H b)(ho:∀b∈ex,∃o,s.heap.get? b=some o)
  (old:∀b o,s.heap.get? b=some o→h'.get? b=some o) {m:Qqx} (hn:h'.Ns C m) (BN:h'.IsCell c none)
  (hp:∀p∈pl,h'.get? p.1=some p.2∧s.heap.objs.size≤p.1∧p.1≠C∧∀v,p.2.data≠.cell v) :
  Inv (X.lT scope z c C s H ex) pl (blank is σ) H {s with heap:=h',toks:=t'} where
 ok:=Ib I hs hk hC hc hf ho
 os:=rfl
 bare:=I.bare
 base:=Un.kept old
 loc:=⟨m,hn,fun i x v h1 h2 h3=>by
  have h3:(relabel scope X.env).names.lookup x=some .local∨(relabel scope X.env).names.lookup x=some .cell∨(relabel scope X.env).names.lookup x=some .free:=h3
  obtain⟨h2,hi⟩:=we h2
  have h1:X.N[i]?=some x:=h1
  cases e:scope.names.lookup x with
  | none=>
   rw[jf,e] at h3
   rcases h3 with q|q|q<;>cases q
  | some k=>
   have hm:(x,k)∈scope.names:=aa6 e
   have hk:k=.free:=by
    rw[jf,e] at h3
    cases k with
    | free=>rfl
    | cell=>exact absurd (hs.own i x h1 (.inr e)) hi
    | «local»=>exact absurd (hs.own i x h1 (.inl e)) hi
    | _=>rcases h3 with q|q|q<;>simp at q
   subst hk
   obtain⟨hxz,hv⟩:=hs.free _ hm rfl
   have hv:X.env.scope.names.lookup x=some .cell∨X.env.scope.names.lookup x=some .free:=hv
   obtain⟨m0,_,hl⟩:=I.loc
   obtain⟨u,r,q⟩:=hl i x v h1 h2 (.inr hv)
   refine⟨u,r,.inr ⟨?_,?_⟩⟩
   ·show(relabel scope X.env).names.lookup x=some .cell∨(relabel scope X.env).names.lookup x=some .free
    rw[jf,e]
    show some (if _ then NameKind.cell else NameKind.free)=_∨some (if _ then NameKind.cell else NameKind.free)=_
    split
    ·exact .inl rfl
    ·exact .inr rfl
   ·rcases q with⟨q,_⟩|⟨_,d,ec,cc⟩
    ·have q:X.env.scope.names.lookup x=some .local:=q
     rcases hv with hv|hv<;>rw[hv] at q<;>cases q
    ·obtain⟨d',e'⟩:=pz (cells:=X.env.cells) (cs:=[]) hm
     have e2:=(sU (cs:=[]) (w_ I hs) e').resolve_left fun q=>by cases q
     rw[ec] at e2
     cases e2
     obtain⟨o,ho,hd⟩:=cc
     exact⟨d,(Kl hxz).trans e',o,old _ _ ho,hd⟩⟩
 cell:=fun x d h=>by
  rcases lr I hs h with⟨_,rfl⟩|h
  ·exact⟨_,BN⟩
  ·obtain⟨v,o,ho,hd⟩:=I.cell x d h
   exact⟨v,o,old _ _ ho,hd⟩
 free:=I.iG.fresh hC
 nF:=fun x d h=>by
  rcases lr I hs h with⟨_,rfl⟩|h
  ·exact I.iG.fresh hc
  ·exact I.nF x d h
 pin:=fun p VZ=>by
  obtain⟨h1,h2,h3,h4⟩:=hp p (by simpa[Cx.lT] using VZ)
  refine⟨h1,I.iG.fresh h2,h3,fun hm=>?_,h4⟩
  rcases Wg.mp (I.qa p.1 hm) with q|q
  ·exact absurd (aas I.lt (by rw[←q];exact h2)) (aa4 _)
  ·exact I.NJ h2 q
 iG:=I.iG.kept old
 len:=by rw[wd];exact I.len
theorem FV{E:Qqq}{elt tg iter:Expr}{ifs:List Expr}{pos:Pos}{it:Addr}{fp:List Addr}{tn:Nat→Heap→Prop}{J:It}{g:TG}{tt:TT}{te:TE}{Fin:List V→Hp→Prop}{RR:Value→Addr→Result→Shared→Prop}
  (I:Inv X c_ σ H s) (hc:X.calm=true) (hs:tX z X.N X.env.scope.names is scope.names) (hk:scope.kind=.function)
  (hg:∀c C s H ex,PG (X.lT scope z c C s H ex) tg g) (ht:∀c C s H ex,LD (X.lT scope z c C s H ex) ifs tt)
  (he:∀c C s H ex,PE (X.lT scope z c C s H ex) elt te)
  (T:Turn X.prog X.w X.K tg J fp it tn) (st:tn 0 s.heap) (hf:∀b∈fp,qb X c_ H b) (h:Fm g tt te J Fin (blank is σ) H)
  (V0:∀(D C:Addr)(ys:List V)(gK:List Value)(n:Nat)(H':Hp)(s':Shared)(m:Qqx),s.heap.objs.size≤D→s.heap.objs.size≤C→D≠C→s'.heap.Ns C m→s'.heap.get? D=some (rq gK n)→Vals ys gK→ys.length≤sizeLine→
   H' D=none→H' C=none→s'.os=s.os→AllBare s'.gens→Un (tH X.stack) fp H H' s.heap s'.heap→qO X.prog X.w H' s'.heap→Fin ys H'→RR (.ref D) C (.ok .next) s') :
  wpAny (model X.prog X.w) X.A (newList []) (fun acc s3=>wpAny (model X.prog X.w) X.A (newFunctionEnv scope X.env.globals (i5 X.env.cells scope.names []) [] X.env.qual none .none (some X.env)) (fun KD s4=>
   codeAny (model X.prog X.w) X.A (.compStart (.ListComp elt [⟨tg,iter,ifs,0⟩] scope pos) 0 (.ref it) acc {KD with scope:=relabel scope X.env}) (RR acc KD.locals) s4) E s3) E s:=by
 refine wpAny_newObj_type (FT hs.one ?_)
 dsimp only
 generalize Pl:s.heap.push {cls:=.type "list",dict:=none,data:=.seq ([]:List Value).toArray}=H2
 generalize Xp:H2.push {cls:=.type "dict",data:=.dict #[]}=H3
 generalize MH:H3.push {cls:=.type "cell",data:=.cell none}=h1
 have hC:H2.objs.size=s.heap.objs.size+1:=by rw[←Pl,abD]
 have hC3:H3.objs.size=H2.objs.size+1:=by rw[←Xp,abD]
 have EZ:s.heap.objs.size≠H2.objs.size:=by rw[hC];exact aaN (abZ _)
 have EI:s.heap.objs.size≤H2.objs.size:=by rw[hC];exact Nat.le_succ _
 have ZU:∀b o,H2.get? b=some o→h1.get? b=some o:=fun b o e=>MH▸YH _ (Xp▸YH _ e)
 have old:∀b o,s.heap.get? b=some o→h1.get? b=some o:=fun b o e=>ZU b o (Pl▸YH _ e)
 have tE:h1.get? s.heap.objs.size=some (rq [] 0):=ZU _ _ (Pl▸aax _ rfl)
 have KG:h1.Ns H2.objs.size fun _=>none:=by
  have q:=(Heap.Ns.new H2 (.type "dict")).keeps (h':=h1) fun b o e=>MH▸YH _ (Xp▸e)
  exact q
 have BN:h1.IsCell (H2.objs.size+1) none:=⟨_,by rw[←hC3,←MH];exact aax _ rfl,rfl⟩
 have Qk:∀b∈fp,∃o,s.heap.get? b=some o:=fun b hb=>let ⟨o,e,_⟩:=T.obj 0 _ st b hb;⟨o,e⟩
 have kB:∀b∈fp,b<s.heap.objs.size:=fun b hb=>let ⟨o,e⟩:=Qk b hb;aar e
 have R7:∀b∈fp,b≠s.heap.objs.size:=fun b hb=>aaN (kB b hb)
 have V1:∀b∈fp,b≠H2.objs.size:=fun b hb=>aaN (aas (kB b hb) EI)
 have RV:s.heap.objs.size≤H2.objs.size+1:=Nat.le_succ_of_le EI
 have Qi:H2.objs.size+1≠s.heap.objs.size:=ab5 (Nat.lt_succ_of_le EI)
 generalize hD:s.heap.objs.size=D at *
 generalize hCC:H2.objs.size=C at *
 generalize hcc':C+1=c at *
 have KH:∀x d,((z,c)::i5 X.env.cells scope.names []).lookup x=some d→d≠D:=fun x d e q=>by
  rcases lr I hs e with⟨_,e⟩|e
  ·exact Qi (e.symm.trans q)
  ·exact absurd (xa I e) (by rw[q,hD];exact aa4 _)
 let XB:=X.lT scope z c C s H fp
 have I1:Inv XB [(D,rq [] 0)] (blank is σ) H {s with heap:=h1}:=
  FU (t':=s.toks) I hs hk (by rw[hD];exact EI) (by rw[hD];exact RV) hf Qk old KG BN fun p hp=>by
   rw[List.mem_singleton.mp hp]
   exact⟨tE,acj hD,EZ,fun v q=>nomatch q⟩
 have Pm:∀{pl:Qqz} {H':Hp},(∀p∈pl,p.1=D)→(∀b∈fp,H' b=none)→∀b∈fp,qb XB pl H' b:=fun{pl H'} oh hn b hb=>
  ⟨hn b hb,V1 b hb,fun hm=>by
   rcases Wg.mp (I.qa b hm) with q|q
   ·exact(hf b hb).2.1 q
   ·exact(hf b hb).2.2.1 q,.inl hb,fun x d e=>by
   rcases lr I hs e with⟨_,e⟩|e
   ·exact ab5 (e▸aas (kB b hb) RV)
   ·exact(hf b hb).2.2.2.2.1 x d e,fun p hp=>by
   have hp:p∈pl:=by simpa[XB,Cx.lT] using hp
   rw[oh p hp]
   exact abF (R7 b hb)⟩
 obtain⟨W,⟨m0,w0⟩,turn⟩:=h
 have E1:tn 0 h1:=T.keep _ _ _ st fun b _ o e=>old b o e
 have loop:codeAny (model X.prog X.w) X.A (.compLoop (.ListComp elt [⟨tg,iter,ifs,0⟩] scope pos) 0 (.ref it) (.ref D) (compEnvC scope ((z,c)::i5 X.env.cells scope.names []) C X.env)) (RR (.ref D) C) {s with heap:=h1}:=by
  refine uS (fun k s'=>∃i ys gK n σ' H',Inv XB [(D,rq gK n)] σ' H' s'∧Vals ys gK∧tn i s'.heap∧(∀b∈fp,H' b=none)∧W i k ys σ' H') ?_ m0 ⟨0,[],[],0,_,_,I1,.nil,E1,fun b hb=>(hf b hb).1,w0⟩
  rintro k s3 ⟨i,ys,gK,n,σ3,H3,I3,vs,lV,Nf,w3⟩
  have oh:∀p∈[(D,rq gK n)],p.1=D:=fun p hp=>by rw[List.mem_singleton.mp hp]
  rcases turn i k ys σ3 H3 w3 with⟨stop,hz,qn⟩|⟨go,hz,N,hN,step⟩
  ·refine iS (T.done XB rfl rfl rfl hc i _ s3 σ3 H3 Io I3 (Pm oh Nf) lV stop) fun r s4 ⟨hr,I4⟩=>?_
   subst hr
   obtain⟨m',Nc,_⟩:=I4.loc
   have pD:=I4.pin (D,rq gK n) (by simp[XB,Cx.lT])
   exact V0 D C ys gK n H3 s4 m' (Vx _) EI EZ Nc pD.1 vs hz pD.2.1 I4.free I4.os I4.bare I4.base I4.iG qn
  ·refine iS (T.item XB rfl rfl rfl hc i _ s3 σ3 H3 Io I3 (Pm oh Nf) lV go) fun r s4 ⟨u,hr,h4⟩=>?_
   subst hr
   refine iS h4 fun _ s5 ⟨x,H5,I5,r5,y5,Kx,RX⟩=>?_
   have RY:=I5.pinned (Pm oh RX) (T.obj _ _ Kx)
   refine iS (hg c C s H fp _ s5 σ3 H5 x u _ RY r5 (step x H5 y5)) fun _ s6 ⟨σ6,H6,I6,q6⟩=>?_
   have tY:∀{σ7:St} {H7:Hp} {s7:Shared},Inv XB ([(D,rq gK n)]++vY fp s5.heap) σ7 H7 s7→tn (i+1) s7.heap∧∀b∈fp,H7 b=none:=fun{σ7 H7 s7} I7=>
    ⟨T.keep _ _ _ Kx fun b hb o e=>(I7.pin (b,o) (aaA _ (aaA _ (l4 hb e)))).1,fun b hb=>by
     obtain⟨o,e,d⟩:=T.obj _ _ Kx b hb
     exact(I7.pin (b,o) (aaA _ (aaA _ (l4 hb e)))).2.1⟩
   refine iS (ht c C s H fp _ s6 σ6 H6 _ I6 q6) fun ok s7 ⟨H7,I7,q7⟩=>?_
   cases ok with
   | false=>
    rw[aal aad] at q7 ⊢
    obtain⟨m',hm,w7⟩:=hN _ _ _ q7
    exact⟨m',hm,i+1,ys,gK,n,σ6,H7,I7.rj,vs,(tY I7).1,(tY I7).2,w7⟩
   | true=>
    rw[aaq rfl] at q7 ⊢
    refine iS (he c C s H fp _ s7 σ6 H7 _ I7 q7) fun y s8 ⟨v,H8,I8,r8,n8⟩=>?_
    obtain⟨m',hm,w8⟩:=hN _ _ _ n8
    obtain⟨V2,V3⟩:=tY I8
    have pD:=I8.pin (D,rq gK n) (by simp)
    have hl:=vs.length
    refine append_at (hsz:=by show gK.toArray.size≤sizeLine;rw[YM,←hl];exact hz) pD.1 fun h9 R8 e9=>?_
    have I9:Inv XB [] σ6 H8 {s8 with heap:=h9}:=by
     have J8:Inv XB [] σ6 H8 s8:=I8.sQ fun p hp=>nomatch hp
     exact J8.turned (t':=s8.toks) (it:=D) (fun b o hb e=>R8.extBut b o hb e) pD.2.1 EZ (.inr (acj hD)) (fun x c e=>KH x c e) fun p hp=>by simp[XB,Cx.lT] at hp
    refine⟨m',hm,i+1,ys++[v],gK++[y],n+1,σ6,H8,I9.sQ fun p hp=>?_,vs.append (.cons r8 .nil),T.keep _ _ _ V2 fun b hb o e=>R8.extBut b o (R7 b hb) e,V3,w8⟩
    rw[List.mem_singleton.mp hp]
    refine⟨?_,pD.2.1,EZ,fun hm=>?_,fun v z=>nomatch z⟩
    ·rw[e9]
     show some _=some _
     rw[List.push_toArray]
    ·exact pD.2.2.2.1 hm
 exact codeAny_compStart_list loop (T.self _ 0 _ _ _ E1 loop)
variable{elt tg iter:Expr}{ifs:List Expr}{pos EJ py:Pos}{wi:TI}{g:TG}{tt:TT}{te:TE}
theorem O6{y:Str}{j:Nat}(z:Str)(N:List Str)(out:List (Str×NameKind))(is:List Nat)(hN:X.N.Nodup)(hj:X.N[j]?=some y)(hy:X.env.scope.names.lookup y=some .local)(hc:X.calm=true)(hi:PI X tg iter wi)(hk:scope.kind=.function)(hs:Kk z N out is scope.names=true)
  (hg:∀c C s H ex,PG (X.lT scope z c C s H ex) tg g) (ht:∀c C s H ex,∃t,LD (X.lT scope z c C s H ex) ifs t∧t=tt)
  (he:∀c C s H ex,∃t,PE (X.lT scope z c C s H ex) elt t∧t=te)
  (R9:swapsWith (.ListComp elt [⟨tg,iter,ifs,0⟩] scope pos) (some (.Name y py)) EJ.line X.env=pure true:=by rfl) (vV:∀x,foldedSetIterable iter X.env x=pure x:=by intro _;rfl) (eN:X.N=N:=by rfl) (eo:X.env.scope.names=out:=by rfl) :
  PS X (.Assign [.Name y py] (.ListComp elt [⟨tg,iter,ifs,0⟩] scope pos) EJ) (Ha (Q6 is wi g tt te) (k7 j)):=by
 intro c_ s σ H Dn I h
 subst eN eo
 have S:=tX.of hs
 rw[exec_Assign_Name_used _ _ _ _ R9]
 refine Ss (wpAny_standAt (Ss ?_))
 show wpAny _ _ (do let _ ←comprehension (.ListComp elt [⟨tg,iter,ifs,0⟩] scope pos) scope X.env _ (newList []) false (eval iter X.env) (some (assign (.Name y py) X.env))) _ _ s
 refine Ss (abo (wpAny_comprehension_free (use:=some (assign (.Name y py) X.env)) (Q:=fun _ s'=>SP X c_ Dn .next s') rfl vV (o3 (w_ I S)) hk S.loc
  (iS (hi c_ s σ H _ I h) fun v s1 h1=>iS h1 fun RW s2 h2=>?_)) (fun _ s' hq=>aai (aai hq)) fun _ _ e=>e)
 obtain⟨it,fp,tn,J,H2,rfl,I2,T,Af,f2,h2⟩:=h2
 refine FV (RR:=fun acc C=>compPost (model X.prog X.w) X.A X.xe (some (assign (.Name y py) X.env)) (fun _ s'=>SP X c_ Dn .next s') acc C) I2 hc S hk hg (fun c C s H ex=>let ⟨_,h,e⟩:=ht c C s H ex;e▸h) (fun c C s H ex=>let ⟨_,h,e⟩:=he c C s H ex;PE.eqv h e) T Af f2 h2 ?_
 intro D C ys gK n H' s' m hD hC EZ hn e vs hz nD nC os bare un iG q
 have J1:Inv X c_ σ (upd H' D (.lst ys)) s':=rA I2 f2 hD e vs hz nD os bare un iG
 show wpAny _ _ (assign (.Name y py) X.env (.ref D)) _ _ _
 refine wpAny_assign_Name (vW J1 hN hj (.inl hy) (v:=.ref D) rfl (fun s5 J5 ⟨a,sb,ha⟩=>?_) (.inr hy))
 have V4:C≠a:=by
  obtain⟨_,f1,_,f3,f4,f5⟩:=I2.yu (H':=fun _=>none) hC rfl
  rcases ha with q|q
  ·rw[q];exact f1
  ·exact fun w=>f4 _ _ q w.symm
 exact⟨m,hn.sameBut sb V4,fun h' Pn=>⟨_,_,uc J5 hC (by rw[e_ (abF EZ)];exact nC) Pn ⟨_,_,I2⟩,q D nD⟩⟩
end
end L2
namespace PM
open PySem (Str)
open Dk
theorem Kn{D:Dk}{s t:Str}(h:∀y,y∈D.held s↔y∈D.held t):D.pG s=D.pG t:=by
 unfold pG
 exact List.filter_congr fun p _=>by rw[decide_eq_decide];exact h p.nm
theorem Ko{D:Dk}{s t:Str}(h:∀y,y∈D.held s↔y∈D.held t)(f:Str):D.row s f=D.row t f:=by unfold Dk.row;rw[Kn h]
theorem Mr{D:Dk}{s t:Str}(h:∀y,y∈D.held s↔y∈D.held t)(f:Str):D.wA s f=D.wA t f:=by unfold Dk.wA;rw[Ko h,Kn h]
noncomputable def iT(D:Dk)(ss:List Str):List Str:=D.names.filter fun x=>ss.any fun c=>decide (x∈D.held c)
theorem mr{D:Dk}{ss:List Str}{y:Str}:y∈iT D ss↔y∈D.names∧∃c∈ss,y∈D.held c:=by
 unfold iT
 rw[aam,ach]
 simp only [aa3]
structure M_(D0 D:Dk)(ss done:List Str):Prop where
 made:D.made=D0.made
 iC:D.iC=D0.iC
 held:∀c∈ss,D.held c=D0.held c
 stores:D.stores=ss++done
 full:∀s∈done,∀y,y∈D.held s↔y∈iT D0 ss
section
variable{D0 D:Dk}{ss done order:List Str}{s n:Str}
theorem M_.names(S:M_ D0 D ss done):D.names=D0.names:=by unfold Dk.names;rw[S.made]
theorem M_.jk(S:M_ D0 D ss done)(x:Str):D.jk x=D0.jk x:=by unfold Dk.jk;rw[S.names,S.iC]
theorem yo(I:Inv D0)(hs:∀c∈ss,c∈D0.stores){x y:Str}(hx:x∈iT D0 ss)(h:y=x∨y∈D0.jk x):y∈iT D0 ss:=by
 rcases h with rfl|h
 ·exact hx
 ·obtain⟨_,c,hc,hx⟩:=mr.mp hx
  unfold Dk.jk at h
  rw[aam,aa3] at h
  exact mr.mpr ⟨h.1,c,hc,(I.k_ c (hs c hc) x hx).2 y h.2⟩
theorem Ic(e:D.names=D0.names)(h:∀y,y∈D.held s↔y∈iT D0 ss):D.has s=iT D0 ss:=by
 unfold Dk.has iT
 rw[e]
 refine List.filter_congr fun x hx=>?_
 rw[abl,aa3,h x,mr,ach]
 simp only [aa3]
 exact⟨fun z=>z.2,fun z=>⟨hx,z⟩⟩
theorem CO{x c:Str}:x∈D.has c↔x∈D.names∧x∈D.held c:=by
 unfold Dk.has
 rw[aam,aa3]
end
end PM
namespace PK
open PySem L2 PM
section
variable{P:Program}{w:World}{K:Qqy}{mg:Qqx}{base:Heap}{A:Ad}
def Ms:Sp:=fun vs H Q _=>∃(a b:Addr)(x y:List Str),vs=[.ref a,.ref b]∧H a=some (.lst (gi x))∧H b=some (.lst (gi y))∧Q (.bl (decide (x=y))) H
theorem FW:W.kitOne K (.type "list") (.type "list")=some true:=aaq (by decide)
theorem FX:W.kitOne K (.type "str") (.type "str")=some true:=aaq (by decide)
theorem CP(T:Txt mg)(O:Ok K mg A):ij P w K mg base l5 1 A.pY A.pZ ["found","due"] Ms:=by
 refine O.su.f.p_ oK fun jm A outer s H vs Q E hr h=>?_
 obtain⟨a,b,x,y,rfl,ha,hb,q⟩:=h
 refine⟨_,(de (ir ((pw_or (ke (kK (gA jt (by rfl) T.jc aaM (a_ (pv 0) (a_ (mv (v:=.ty "list") (by rfl) T.rQ abe rfl) d_))))) (pw_or1 (ib Du (gA gp (by rfl) T.jh aao (a_ (pv 0) d_)) (gA gp (by rfl) T.jh aao (a_ (pv 1) d_)) (iA _)))).pt) (f_ (gR kI)) g_)
   (de (iu aap rfl (ie (pv 0)) (rf 2 oK) (f_ (ir (ke (kK (gA jt (by rfl) T.jc aaM (a_ (pv 2) (a_ (mv (v:=.ty "str") (by rfl) T.JN PyProof.Rows.boot_str rfl) d_))))) (f_ (gR kI)) g_)))
   (f_ (gR (Ll (Jc 3 (by exact Vu hr)) (pv 0) (pv 1) (iA _)))))),?_⟩
 refine DO ?_;intro _ _
 refine⟨_,rfl,_,_,_,_,rfl,.lst ha,FW,_,rfl,jz ?_⟩
 refine⟨_,rfl,a,_,rfl,.inl (gF.of ha),_,rfl,b,_,rfl,.inl (gF.of hb),rfl,_,rfl,?_⟩
 refine kq (fun hc=>?_) (fun hc=>?_)
 ·rw[aab fun z=>?_] at q
  ·exact q
  ·subst z;simp at hc
 ·let Jv:=fun(i:Nat) (σ:St) (H2:Hp)=>∃v,σ=[rr a,rr b,v]∧H2=H
  refine⟨_,rfl,a,rfl,⟨_,gF.of ha⟩,iH (K:=K) (a:=a) (xs:=gi x) Jv ⟨none,rfl,rfl⟩ (by rintro _ _ _ _ ⟨_,_,e⟩;subst e;exact gF.of ha) ?_ ?_⟩
  ·rintro i v σ H2 hv ⟨u,rfl,rfl⟩
   obtain⟨z,_,rfl⟩:=jM hv
   refine⟨_,rfl,_,_,_,_,rfl,.str z,FX,_,rfl,jz ?_⟩
   exact⟨_,rfl,rfl⟩
  ·rintro σ H2 ⟨u,rfl,rfl⟩
   exact⟨_,rfl,_,rfl,_,⟨a,b,rfl,rfl⟩,GR (gF.of ha) (gF.of hb),q⟩
theorem Rep.Mt{H:Hp}{n:Nat}{v:V}{xs:List Dv}(r:Rep H n v (.l xs)):∃a vs m,v=.ref a∧H a=some (.lst vs)∧vs.length=xs.length∧∀(j:Nat) u d,vs[j]?=some u→xs[j]?=some d→Rep H m u d:=by
 cases r with
 | l h hl hr=>exact⟨_,_,_,rfl,h,hl,hr⟩
theorem Rep.RO{H:Hp}{n:Nat}{v:V}{xs:List Dv}(r:Rep H n v (.t xs)):∃a vs m,v=.ref a∧H a=some (.tup vs)∧vs.length=xs.length∧∀(j:Nat) u d,vs[j]?=some u→xs[j]?=some d→Rep H m u d:=by
 cases r with
 | t h hl hr=>exact⟨_,_,_,rfl,h,hl,hr⟩
theorem Rep.RP{H:Hp}{n:Nat}{v:V}{x:Str}(r:Rep H n v (.s x)):v=.str x:=by cases r;rfl
theorem Rep.O7{H:Hp}{n:Nat}{v:V}{x:Int}(r:Rep H n v (.i x)):v=.int x:=by cases r;rfl
theorem Rep.RQ{H:Hp}{n:Nat}{v:V}{x z:Str}{k:Int}(r:Rep H n v (.t [.s x,.i k,.s z])):∃a,v=.ref a∧H a=some (.tup [.str x,.int k,.str z]):=by
 obtain⟨a,vs,m,e,h,hl,hr⟩:=r.RO
 match vs,hl,hr,h with
 | [u1,u2,u3],_,hr,h=>
  have e1:=(hr 0 u1 _ rfl rfl).RP
  have e2:=(hr 1 u2 _ rfl rfl).O7
  have e3:=(hr 2 u3 _ rfl rfl).RP
  subst e1 e2 e3
  exact⟨a,e,h⟩
theorem Rep.RS{H:Hp}{n:Nat}{v:V}{x z:Int}(r:Rep H n v (.t [.i x,.i z])):∃a,v=.ref a∧H a=some (.tup [.int x,.int z]):=by
 obtain⟨a,vs,m,e,h,hl,hr⟩:=r.RO
 match vs,hl,hr,h with
 | [u1,u2],_,hr,h=>
  have e1:=(hr 0 u1 _ rfl rfl).O7
  have e2:=(hr 1 u2 _ rfl rfl).O7
  subst e1 e2
  exact⟨a,e,h⟩
theorem Ie(l:List Str):∀k,(gi l).eraseIdx k=gi (l.eraseIdx k):=by
 induction l with
 | nil=>intro k;rfl
 | cons x r ih=>
  intro k
  cases k with
  | zero=>rfl
  | succ k=>exact aa2 (V.str x::·) (ih k)
theorem FY{l:List Str}:∀{k:Nat} (h:k<l.length),(l[k]::l.eraseIdx k).Perm l:=by
 induction l with
 | nil=>intro k h;simp at h
 | cons x r ih=>
  intro k h
  cases k with
  | zero=>exact List.Perm.refl _
  | succ k=>exact(List.Perm.swap x _ _).trans ((ih (by simpa using h)).cons x)
theorem Ae(x:Str):∀l:List Str,Ls (.str x) (gi l)=decide (x∈l):=by
 intro l
 unfold Ls
 rw[abl,List.any_map,ach,aa3]
 constructor
 ·rintro⟨y,hy,e⟩
  have e:(y ==x)=true:=e
  rw[←eq_of_beq e];exact hy
 ·exact fun h=>⟨x,h,by show(x ==x)=true;exact ace x⟩
theorem xb(D:Dk)(s:Str)(l:List Str):(j6 D s l).held s=l:=aaq rfl
theorem Kq{D:Dk}{s c:Str}{l:List Str}(h:c≠s):(j6 D s l).has c=D.has c:=by
 have e:(j6 D s l).held c=D.held c:=aal h
 unfold Dk.has
 rw[e];rfl
theorem Kr:W.kitOne K (.type "tuple") (.type "tuple")=some true:=aaq (by decide)
theorem O8:W.kitOne K (.type "int") (.type "int")=some true:=aaq (by decide)
theorem O9:W.kitOne K (.type "int") (.type "bool")=some false:=by kernel_rfl
def Mu:Sp:=fun vs H Q _=>∃i:Int,vs=[.int i]∧Q (.bl true) H
theorem EE(T:Txt mg)(O:Ok K mg A):ij P w K mg base l5 1 A.vz A.vA ["found"] Mu:=by
 refine O.qA.f.p_ AM fun jm A outer s H vs Q E hr h=>?_
 obtain⟨i,rfl,q⟩:=h
 refine⟨_,(f_ (gR (NO (gA jt (by rfl) T.jc aaM (a_ (pv 0) (a_ (mv (v:=.ty "int") (by rfl) T.Rp PyProof.Rows.boot_int rfl) d_))) (NN (NP (gA jt (by rfl) T.jc aaM (a_ (pv 0) (a_ (mv (v:=.ty "bool") (by rfl) T.Oy PyProof.Rows.boot_bool rfl) d_)))))))),?_⟩
 refine⟨_,rfl,_,_,_,_,rfl,.int i,O8,_,rfl,l6 ?_⟩
 exact⟨_,rfl,_,_,_,_,rfl,.int i,O9,_,rfl,q⟩
def Ig:Sp:=fun vs H Q _=>∃(v:V)(n:Nat)(row:List Ln),vs=[v]∧Rep H n v (Mq row)∧Q (.bl true) H
theorem EF(T:Txt mg)(O:Ok K mg A):ij P w K mg base l5 2 A.qX A.qY ["row"] Ig:=by
 have nB:=@EE P w K mg base A T O
 refine O.tV.f.p_ pJ fun jm A outer s H vs Q E hr h=>?_
 obtain⟨v,n,row,rfl,rp,q⟩:=h
 obtain⟨p,ps,m,rfl,hp,hl,Xq⟩:=rp.Mt
 refine⟨_,(de (ir (ke (kK (gA jt (by rfl) T.jc aaM (a_ (pv 0) (a_ (mv (v:=.ty "list") (by rfl) T.rQ abe rfl) d_))))) (f_ (gR kI)) g_)
   (de (iu aap rfl (ie (pv 0)) (rf 1 pJ) (de (ir ((pw_or (ke (kK (gA jt (by rfl) T.jc aaM (a_ (pv 1) (a_ (mv (v:=.ty "tuple") (by rfl) T.GH PyProof.Rows.boot_tuple rfl) d_))))) (pw_or (ib Du (gA gp (by rfl) T.jh aao (a_ (pv 1) d_)) gg (iA _)) (pw_or1 (ke (kK (gA jt (by rfl) T.jc aaM (a_ (jW oY (pv 1) gg (fun _ _=>rfl)) (a_ (mv (v:=.ty "str") (by rfl) T.JN PyProof.Rows.boot_str rfl) d_)))))))).pt) (f_ (gR kI)) g_)
   (f_ (ir ((pw_or (ke (kK (nE O.qA nB hr (a_ (jW oY (pv 1) gg (fun _ _=>rfl)) d_)))) (pw_or1 (ke (kK (gA jt (by rfl) T.jc aaM (a_ (jW oY (pv 1) gg (fun _ _=>rfl)) (a_ (mv (v:=.ty "str") (by rfl) T.JN PyProof.Rows.boot_str rfl) d_))))))).pt) (f_ (gR kI)) g_))))
   (f_ (gR kI)))),?_⟩
 refine DO ?_;intro _ _
 refine⟨_,rfl,_,_,_,_,rfl,.lst hp,FW,_,rfl,jz ?_⟩
 let Jv:=fun(i:Nat) (σ:St) (H2:Hp)=>∃v,σ=[rr p,v]∧H2=H
 refine⟨_,rfl,p,rfl,⟨_,gF.of hp⟩,iH (K:=K) (a:=p) (xs:=ps) Jv ⟨none,rfl,rfl⟩ (by rintro _ _ _ _ ⟨_,_,e⟩;rw[e];exact gF.of hp) ?_ ?_⟩
 ·rintro i y σ H2 hi ⟨v,rfl,rfl⟩
  have kB:=(List.getElem?_eq_some_iff.mp hi).1
  rw[hl,So] at kB
  have vQ:(row.map fun l=>Dv.t [.s l.nm.1,.i l.nm.2,.s l.tx])[i]?=some (.t [.s row[i].nm.1,.i row[i].nm.2,.s row[i].tx]):=by rw[aae,Su kB];rfl
  obtain⟨a,rfl,ha⟩:=(Xq i y _ hi vQ).RQ
  refine⟨_,rfl,_,_,_,_,rfl,.tup ha,Kr,_,rfl,jz ?_⟩
  refine⟨_,rfl,a,_,rfl,.inr (rg.of ha),rfl,_,rfl,Jl (by rfl) ?_⟩
  refine⟨_,rfl,a,_,_,_,rfl,rfl,rg.of ha,ic (j:=0) rfl rfl,_,_,_,_,rfl,.str _,FX,_,rfl,jz ?_⟩
  refine⟨_,rfl,a,_,_,_,rfl,rfl,rg.of ha,ic (j:=1) rfl rfl,_,rfl,_,rfl,jz ?_⟩
  refine⟨_,rfl,a,_,_,_,rfl,rfl,rg.of ha,ic (j:=2) rfl rfl,_,_,_,_,rfl,.str _,FX,_,rfl,jz ?_⟩
  exact⟨_,rfl,rfl⟩
 ·rintro σ H2 ⟨v,rfl,rfl⟩
  exact q
def EG:Sp:=fun vs H Q _=>∃(v:V)(n:Nat)(qs:List (Nat×Nat)),vs=[v]∧Rep H n v (T6 qs)∧Q (.bl true) H
theorem A3(T:Txt mg)(O:Ok K mg A):ij P w K mg base l5 2 A.oS A.oT ["found"] EG:=by
 have nB:=@EE P w K mg base A T O
 refine O.q8.f.p_ nY fun jm A outer s H vs Q E hr h=>?_
 obtain⟨v,n,row,rfl,rp,q⟩:=h
 obtain⟨p,ps,m,rfl,hp,hl,Xq⟩:=rp.Mt
 refine⟨_,(de (ir (ke (kK (gA jt (by rfl) T.jc aaM (a_ (pv 0) (a_ (mv (v:=.ty "list") (by rfl) T.rQ abe rfl) d_))))) (f_ (gR kI)) g_)
   (de (iu aap rfl (ie (pv 0)) (rf 1 nY) (f_ (ir ((pw_or (ke (kK (gA jt (by rfl) T.jc aaM (a_ (pv 1) (a_ (mv (v:=.ty "tuple") (by rfl) T.GH PyProof.Rows.boot_tuple rfl) d_))))) (pw_or (ib Du (gA gp (by rfl) T.jh aao (a_ (pv 1) d_)) gg (iA _)) (pw_or (ke (kK (nE O.qA nB hr (a_ (jW oY (pv 1) gg (fun _ _=>rfl)) d_)))) (pw_or1 (ke (kK (nE O.qA nB hr (a_ (jW oY (pv 1) gg (fun _ _=>rfl)) d_)))))))).pt) (f_ (gR kI)) g_)))
   (f_ (gR kI)))),?_⟩
 refine DO ?_;intro _ _
 refine⟨_,rfl,_,_,_,_,rfl,.lst hp,FW,_,rfl,jz ?_⟩
 let Jv:=fun(i:Nat) (σ:St) (H2:Hp)=>∃v,σ=[rr p,v]∧H2=H
 refine⟨_,rfl,p,rfl,⟨_,gF.of hp⟩,iH (K:=K) (a:=p) (xs:=ps) Jv ⟨none,rfl,rfl⟩ (by rintro _ _ _ _ ⟨_,_,e⟩;rw[e];exact gF.of hp) ?_ ?_⟩
 ·rintro i y σ H2 hi ⟨v,rfl,rfl⟩
  have kB:=(List.getElem?_eq_some_iff.mp hi).1
  rw[hl,So] at kB
  have vQ:(row.map fun q=>Dv.t [.i q.1,.i q.2])[i]?=some (.t [.i row[i].1,.i row[i].2]):=by rw[aae,Su kB];rfl
  obtain⟨a,rfl,ha⟩:=(Xq i y _ hi vQ).RS
  refine⟨_,rfl,_,_,_,_,rfl,.tup ha,Kr,_,rfl,jz ?_⟩
  refine⟨_,rfl,a,_,rfl,.inr (rg.of ha),rfl,_,rfl,Jl (by rfl) ?_⟩
  refine⟨_,rfl,a,_,_,_,rfl,rfl,rg.of ha,ic (j:=0) rfl rfl,_,rfl,_,rfl,jz ?_⟩
  refine⟨_,rfl,a,_,_,_,rfl,rfl,rg.of ha,ic (j:=1) rfl rfl,_,rfl,_,rfl,jz ?_⟩
  exact⟨_,rfl,rfl⟩
 ·rintro σ H2 ⟨v,rfl,rfl⟩
  exact q
def Mv:Sp:=fun vs H Q _=>∃(l:Addr)(names:List Str)(c:Int),vs=[.ref l,.int c]∧H l=some (.lst (gi names))∧names.length≤1000∧∀p H' order,gj H H'→H p=none→H' p=some (.lst (gi order))→order.Perm names→Q (.ref p) H'
theorem Ks(T:Txt mg)(O:Ok K mg A):ij P w K mg base l5 2 A.vB A.vC ["names","cell"] Mv:=by
 have sO:=@GY P w K mg base A T O
 refine O.uu.f.p_ jJ fun jm A outer s H vs Q E hr h=>?_
 obtain⟨l,names,c,rfl,hl,Lb,q⟩:=h
 have sz:sizeLine=16777216:=aay
 refine⟨_,(de (lu 2 jJ (sS uR (by rfl) T.rQ abe (a_ (pv 0) d_)))
   (de (lu 3 jJ (iU d_))
   (de (iu aap rfl (j7 rfl T.kX (a_ (gA gp (by rfl) T.jh aao (a_ (pv 0) d_)) d_)) (rf 4 jJ) (de (lu 5 jJ (nE O.wR sO hr (a_ (pv 1) (a_ (pv 4) (a_ (gA gp (by rfl) T.jh aao (a_ (pv 2) d_)) d_)))))
   (de (qd (ir (ib lX (gz iJ (pv 1) gg) gg (iA _)) (f_ (lu 5 jJ gg)) g_))
   (de (qd (ir (ib lX (gz iJ (pv 1) gg) gg (iA _)) (f_ (lu 5 jJ (gz y8 (gA gp (by rfl) T.jh aao (a_ (pv 2) d_)) gg))) g_))
   (f_ (gM (ow aaF aaQ aaR j8 (pv 3) (a_ (ow aaF PySem.F.slot_list_pop PySem.F.type_list_pop IS (pv 2) (a_ (pv 5) d_)) d_))))))))
   (f_ (gR (pv 3)))))),?_⟩
 refine M0 ?_;intro _ _ _
 refine⟨_,rfl,l,_,rfl,.inl (gF.of hl),fun lf ZV=>?_⟩
 have s1:gj H (upd H lf (.lst (gi names))):=(gj.refl H).new ZV
 refine⟨L2.jI,fun fd Tz=>?_⟩
 have s2:=s1.new (o:=.lst []) Tz
 have TB:H fd=none:=s1.free Tz
 have sJ:lf≠fd:=fun z=>by rw[←z,b_] at Tz;cases Tz
 have el:((gi names).length:Int)=(names.length:Int):=by simp
 dsimp only [k7];refine Ht ?_;intro _
 refine⟨_,rfl,l,_,rfl,.inl (gF.of (s2 _ _ hl)),_,rfl,by rw[el];omega,by rw[el];omega,?_⟩
 let Jv:=fun(i:Nat) (σ:St) (H2:Hp)=>∃(left found:List Str)(v4 v5:Option V),σ=[rr l,ri c,rr lf,rr fd,v4,v5]∧gj H H2∧H2 lf=some (.lst (gi left))∧H2 fd=some (.lst (gi found))∧(found++left).Perm names∧found.length=i
 refine k8 Jv ⟨names,[],none,none,rfl,s2,il Tz b_,b_,List.Perm.refl _,rfl⟩ ?_ ?_
 ·rintro i σ H2 hi ⟨left,found,v4,v5,rfl,s3,hL,hF,pm,fl⟩
  have hlen:left.length=names.length-i:=by have:=pm.length_eq;rw[Vq] at this;omega
  have hi:i<names.length:=by
     have:((names.length:Int)-0).toNat=names.length:=by omega
     rw[el] at hi;omega
  have UO:((gi left).length:Int)=(left.length:Int):=by simp
  refine⟨_,rfl,_,rfl,_,rfl,lf,_,rfl,.inl (gF.of hL),c,_,_,rfl,by rw[UO];omega,by omega,by omega,fun x TC TF=>?_⟩
  rw[UO] at TF
  refine⟨fun σ H3=>∃x:Int,σ=[rr l,ri c,rr lf,rr fd,ri (0+(i:Int)),ri x]∧H3=H2∧0≤x∧x<(left.length:Int),?_,?_⟩
  ·refine⟨_,rfl,_,_,rfl,rfl,(by show(0:Int)<4;decide),rfl,_,rfl,kq (fun _=>?_) (fun _=>?_)⟩
   ·exact⟨0,rfl,rfl,by decide,by omega⟩
   ·exact⟨x,rfl,rfl,TC,TF⟩
  rintro σ H3 ⟨x,rfl,rfl,TC,TF⟩
  refine⟨fun σ H4=>∃x:Int,σ=[rr l,ri c,rr lf,rr fd,ri (0+(i:Int)),ri x]∧H4=H3∧0≤x∧x<(left.length:Int),?_,?_⟩
  ·refine⟨_,rfl,_,_,rfl,rfl,(by show(0:Int)<4;decide),rfl,_,rfl,kq (fun _=>?_) (fun _=>?_)⟩
   ·refine⟨_,rfl,lf,_,rfl,.inl (gF.of hL),_,_,rfl,rfl,(left.length:Int)-1,?_,rfl,by omega,by omega⟩
    rw[UO];rfl
   ·exact⟨x,rfl,rfl,TC,TF⟩
  rintro σ H4 ⟨x,rfl,rfl,TC,TF⟩
  obtain⟨k,rfl⟩:∃k:Nat,x=(k:Int):=⟨_,(Int.toNat_of_nonneg TC).symm⟩
  have hk:k<left.length:=by omega
  have ZW:(gi left)[k]?=some (V.str left[k]):=by unfold gi;rw[aae,Su hk];rfl
  have Iv:DC (gi left) (k:Int)=some (V.str left[k]):=ic (j:=k) rfl ZW
  obtain⟨j,UC,Zz,hj3,_⟩:=yQ Iv
  have Pr:j=k:=by
   have:=PySem.StrLaws.seqIndex_nonneg (i:=(k:Int)) (n:=(gi left).length) (by omega) (by rw[UO];omega)
   rw[UC] at this
   have:=aaz this
   omega
  subst Pr
  refine⟨_,rfl,.inl ⟨rfl,_,gF.of hF⟩,_,rfl,.inl ⟨rfl,_,gF.of hL⟩,_,rfl,lf,gi left,_,j,V.str left[j],rfl,rfl,hL,by omega,by omega,UC,ZW,?_⟩
  refine⟨fd,gi found,_,rfl,rfl,by rw[e_ sJ.symm];exact hF,by rw[So];omega,?_⟩
  refine⟨left.eraseIdx j,found++[left[j]],_,_,rfl,?_,?_,?_,?_,?_⟩
  ·intro b o e
   have h1:=s3 b o e
   rw[e_ (fun z=>by rw[z,TB] at e;cases e),e_ (fun z=>by rw[z,ZV] at e;cases e)]
   exact h1
  ·rw[e_ sJ,b_]
   rw[Ie]
  ·rw[b_,←i8]
  ·refine List.Perm.trans ?_ pm
   rw[aaK]
   exact List.Perm.append_left _ (FY hk)
  ·rw[Vq,fl];rfl
 ·rintro σ H2 ⟨left,found,v4,v5,rfl,s3,hL,hF,pm,fl⟩
  refine⟨_,rfl,q fd H2 found s3 TB hF ?_⟩
  have hlen:=pm.length_eq
  rw[Vq] at hlen
  have:((names.length:Int)-0).toNat=names.length:=by omega
  have e0:left=[]:=aaE.mp (by rw[el] at fl;omega)
  rw[e0,aaJ] at pm
  exact pm
def Mw(A:Ad):Sp:=fun vs H Q _=>∃(d so od:Addr)(D:Dk)(W:Addr→Prop)(s:Str)(Gh order:List Str),vs=[.ref d,.str s,.ref so,.ref od]∧ig A H d D W∧Inv D∧uw D.made.length∧s∈D.stores∧jV s∧H so=some (.lst (gi Gh))∧H od=some (.lst (gi order))∧(∀c∈Gh,c∈D.stores∧jV c∧c≠s)∧(∀x∈order,jV x)∧
 ∀H' l,ig A H' d (j6 D s l) W→Inv (j6 D s l)→lZ W H H'→(∀y,y∈l↔y∈D.held s∨∃x∈order,(∃c∈Gh,x∈D.has c)∧(y=x∨y∈D.jk x))→Q .jl H'
theorem CQ(T:Txt mg)(O:Ok K mg A):ij P w K mg base l5 4 A.p0 A.p3 ["desk","store","sources","order"] (Mw A):=by
 have i_:=(@CG P w K mg base A T O).Fo
 have sN:=(@GQ P w K mg base A T O).Fo
 refine O.n9.f.p_ lM fun jm A0 outer s H vs Q E hr h=>?_
 obtain⟨d,so,od,D,W,st,Gh,order,rfl,X,I,jI,hs,ET,Nz,Ni,hsr,hoF,q⟩:=h
 refine⟨_,(f_ (iu aap rfl (ie (pv 3)) (rf 4 lM) (f_ (iu aap rfl (ie (pv 2)) (rf 5 lM) (f_ (ir (ib Bg (pv 4) (yx (pv 0) O.gE O.ky i_ hr (a_ (pv 5) d_)) rfl) (f_ (gM (yx (pv 0) O.gE O.wQ sN hr (a_ (pv 1) (a_ (pv 5) (a_ (pv 4) d_)))))) g_)))))),?_⟩
 have hnS:∀l,(j6 D st l).names=D.names:=fun _=>rfl
 have hlS:∀l z,(j6 D st l).jk z=D.jk z:=fun _ _=>rfl
 let Jv:=fun(i:Nat) (σ:St) (H2:Hp)=>∃(l:List Str)(v4 v5:Option V),σ=[rr d,rs st,rr so,rr od,v4,v5]∧lZ W H H2∧ig A H2 d (j6 D st l) W∧Inv (j6 D st l)∧∀y,y∈l↔y∈D.held st∨∃x∈order.take i,(∃c∈Gh,x∈D.has c)∧(y=x∨y∈D.jk x)
 refine⟨_,rfl,od,rfl,⟨_,gF.of Ni⟩,iH (K:=K) (a:=od) (xs:=gi order) Jv
  ⟨D.held st,none,none,rfl,lZ.of (gj.refl _),by rw[wY];exact X,by rw[wY];exact I,fun y=>by simp⟩ (by rintro _ _ _ _ ⟨_,_,_,_,e,_⟩;exact gF.of (e _ _ Ni (X.lst Ni))) ?_ ?_⟩
 ·rintro i v σ H2 hv ⟨l0,v4,v5,rfl,x2,X2,I2,Nk⟩
  obtain⟨x,hx,rfl⟩:=jM hv
  have hxF:=hoF x (Vs hx)
  have Xr:=x2 _ _ Nz (X.lst Nz)
  let Jv:=fun(j:Nat) (σ:St) (H3:Hp)=>∃(l:List Str)(v5:Option V),σ=[rr d,rs st,rr so,rr od,rs x,v5]∧lZ W H H3∧ig A H3 d (j6 D st l) W∧Inv (j6 D st l)∧∀y,y∈l↔y∈l0∨(∃c∈Gh.take j,x∈D.has c)∧(y=x∨y∈D.jk x)
  refine⟨_,rfl,so,rfl,⟨_,gF.of Xr⟩,iH (K:=K) (a:=so) (xs:=gi Gh) Jv
   ⟨l0,v5,rfl,x2,X2,I2,fun y=>by simp⟩ (by rintro _ _ _ _ ⟨_,_,_,e,_⟩;exact gF.of (e _ _ Nz (X.lst Nz))) ?_ ?_⟩
  ·rintro j v σ H3 hv ⟨l,v5,rfl,x3,X3,I3,hl⟩
   obtain⟨c,hc,rfl⟩:=jM hv
   obtain⟨Qi,ZX,P6⟩:=hsr c (Vs hc)
   obtain⟨π3,y3⟩:=id X3
   have ZY:=take_snoc hc
   refine⟨_,rfl,_,rfl,d,π3.dx,_,rfl,y3.hd,pb,_,rfl,d,j6 D st l,W,c,rfl,X3,ZX,jI,fun h=>absurd Qi h,fun _ p hp=>?_⟩
   rw[Kq P6]
   have s4:gj H3 (upd H3 p (.lst (gi (D.has c)))):=(gj.refl _).new hp
   have x4:lZ W H (upd H3 p (.lst (gi (D.has c)))):=fun b o e n=>s4 _ _ (x3 b o e n)
   refine⟨p,_,rfl,.inl (gF.of b_),rfl,by simp[gi,lB],_,rfl,kq (fun hb=>?_) (fun hb=>?_)⟩
   ·have hb:Ls (V.str x) (gi (D.has c))=true:=hb
    rw[Ae] at hb
    have TH:x∈D.has c:=aau hb
    have ZZ:x∈D.held c∧x∈D.names:=by
     unfold Dk.has at TH
     rw[aam] at TH
     exact⟨aau TH.2,TH.1⟩
    have Nr:x∈(j6 D st l).held c:=by show x∈(if c=st then l else D.held c);rw[aal P6];exact ZZ.1
    refine⟨_,rfl,d,π3.dx,_,rfl,s4 _ _ y3.hd,GN,_,rfl,_,rfl,_,rfl,d,j6 D st l,W,st,c,x,rfl,X3.same s4,I3,jI,ET,ZX,hxF,fun h=>absurd hs h,fun _ h=>absurd Qi h,fun _ _ h=>absurd Nr h,fun _ _ _ cm Hm H5 Z0 Xs K9 X5 x5=>?_⟩
    have e5:(j6 D st l).take st x=j6 D st (l++(j6 D st l).mQ st x):=by rw[BI,xb,BJ]
    rw[e5] at X5
    have I5:=I3.take (s:=st) (x:=x) hs ZZ.2
    rw[e5] at I5
    refine⟨_,_,rfl,fun b o e n=>x5 b o (by rw[e_ (gh (Z0 _ _ (x4 b o e n)) Xs)];exact Z0 _ _ (x4 b o e n)) n,X5,I5,fun y=>?_⟩
    have TJ:y∈(j6 D st l).mQ st x↔(y∈D.jk x∨y=x)∧y∉l:=by
     unfold Dk.mQ
     rw[xb,hlS,aam]
     simp
    rw[Wl,TJ,hl y,ZY]
    constructor
    ·rintro((h|⟨⟨c',h1,h2⟩,h3⟩)|⟨h,_⟩)
     ·exact .inl h
     ·exact .inr ⟨⟨c',YI _ h1,h2⟩,h3⟩
     ·exact .inr ⟨⟨c,by simp,TH⟩,h.symm⟩
    ·rintro(h|⟨_,h3⟩)
     ·exact .inl (.inl h)
     ·by_cases hy:y∈l
      ·exact .inl ((hl y).mp hy)
      ·exact .inr ⟨h3.symm,fun z=>hy ((hl y).mpr z)⟩
   ·have hb:¬Ls (V.str x) (gi (D.has c))=true:=hb
    rw[Ae,aa3] at hb
    refine⟨l,_,rfl,x4,X3.same s4,I3,fun y=>?_⟩
    rw[hl y,ZY]
    constructor
    ·rintro(h|⟨⟨c',h1,h2⟩,h3⟩)
     ·exact .inl h
     ·exact .inr ⟨⟨c',YI _ h1,h2⟩,h3⟩
    ·rintro(h|⟨⟨c',h1,h2⟩,h3⟩)
     ·exact .inl h
     ·rcases Wl.mp h1 with h1|h1
      ·exact .inr ⟨⟨c',h1,h2⟩,h3⟩
      ·rw[List.mem_singleton.mp h1] at h2;exact absurd h2 hb
  ·rintro σ H3 ⟨l,v5,rfl,x3,X3,I3,hl⟩
   rw[So,aak] at hl
   refine⟨l,_,_,rfl,x3,X3,I3,fun y=>?_⟩
   rw[hl y,Nk y,take_snoc hx]
   constructor
   ·rintro((h|⟨x',h1,h2⟩)|h)
    ·exact .inl h
    ·exact .inr ⟨x',YI _ h1,h2⟩
    ·exact .inr ⟨x,by simp,h⟩
   ·rintro(h|⟨x',h1,h2⟩)
    ·exact .inl (.inl h)
    ·rcases Wl.mp h1 with h1|h1
     ·exact .inl (.inr ⟨x',h1,h2⟩)
     ·rw[List.mem_singleton.mp h1] at h2;exact .inr h2
 ·rintro σ H2 ⟨l,v4,v5,rfl,x2,X2,I2,hl⟩
  rw[So,aak] at hl
  exact q H2 l X2 I2 x2 hl
open Kp (lS i0)
def O_(A:Ad):Sp:=fun vs H Q _=>∃(d fs:Addr)(D:Dk)(W:Addr→Prop)(s:Str)(files:List Str),vs=[.ref d,.str s,.ref fs]∧ig A H d D W∧Inv D∧Small D.made∧s∈D.stores∧jV s∧H fs=some (.lst (gi files))∧files.length≤1000∧∀p H',gj H H'→H p=none→Rep H' 4 (.ref p) (G0 D s files)→Q (.ref p) H'
theorem Mx(T:Txt mg)(O:Ok K mg A):ij P w K mg base l5 7 A.yh A.yi ["desk","store","files"] (O_ A):=by
 have uy:=(@Kd P w K mg base A T O).Fo
 have mZ:=(@yn P w K mg base A T O).Fo
 refine O.wV.f.p_ ve fun jm A0 outer s H vs Q E hr h=>?_
 obtain⟨d,fs,D,W,st,files,rfl,X,I,sm,hs,ET,vV,ZD,q⟩:=h
 obtain⟨π,y⟩:=id X
 have sz:sizeLine=16777216:=aay
 refine⟨_,(f_ (gR (xx xH (gb oH).names [3] rfl (ie (pv 2)) rfl (by decide+kernel) (fun _ _ _ _=>(iz (i:=3) ve.nd rfl (Or.inl rfl))) (fun _ _ _ _=>mK) (fun _ _ _ _=>AF (iU (a_ (yx (pv 0) O.gE O.zS uy hr (a_ (pv 1) (a_ (pv 3) d_))) (a_ (yx (pv 0) O.gE O.o6 mZ hr (a_ (pv 1) (a_ (pv 3) d_))) d_))))))),?_⟩
 let Jv:=fun(i:Nat) (ys:List V) (σ:St) (H4:Hp)=>∃(v3:Option V),σ=[rr d,rs st,rr fs,v3]∧gj H H4∧Paired (fun v f=>Rep H4 3 v (.l [Mq (D.row st f),T6 (D.wA st f)])) ys (files.take i)
 refine⟨_,rfl,fs,rfl,⟨_,gF.of vV⟩,jY (K:=K) (a:=fs) (xs:=gi files) (by rw[So];omega) Jv
  ⟨none,rfl,gj.refl _,.nil⟩ (by rintro _ _ _ _ _ ⟨_,_,e,e2⟩;exact⟨gF.of (e _ _ vV),by rw[aan e2,aaB];omega⟩) ?_ ?_⟩
 ·rintro i v ys σ H4 hx ⟨v3,rfl,s4,e2⟩
  obtain⟨f,hf,rfl⟩:=jM hx
  refine⟨_,rfl,d,π.dx,_,rfl,s4 _ _ y.hd,J9,_,rfl,_,rfl,d,D,W,st,f,rfl,X.same s4,ET,sm,I,fun h=>absurd hs h,fun _ r H5 ML tF CV=>?_⟩
  have s5:=s4.trans ML
  refine⟨_,rfl,d,π.dx,_,rfl,s5 _ _ y.hd,ym,_,rfl,_,rfl,d,D,W,st,f,rfl,X.same s5,ET,sm,I,fun h=>absurd hs h,fun _ c H6 qs Qx UD SD hc2=>⟨L2.jI,fun u hu=>?_⟩⟩
  have Xt:gj H6 (upd H6 u (.lst [.ref r,.ref c])):=(gj.refl H6).new hu
  have Z1:=(ML.trans Qx).trans Xt
  refine⟨_,rfl,s4.trans Z1,?_⟩
  rw[take_snoc hf]
  refine iy (Paired.kJ e2 fun _ _ z=>z.same Z1) ?_
  exact Rep.two b_ ((CV.rep.same Qx).same Xt) ((Ia SD hc2).same Xt)
 ·rintro ys σ H4 ⟨v3,rfl,s4,e2⟩ p hp
  rw[So,aak] at e2
  have s5:gj H4 (upd H4 p (.lst ys)):=(gj.refl H4).new hp
  exact q p _ (s4.trans s5) (s4.free hp) (Rep.BK b_ e2 fun _ _ z=>z.same s5)
theorem Kt{D0 D:Dk}{ss done order l:List Str}{n:Str}(S:M_ D0 D ss done)(I:Inv D0)(hs:D0.stores=ss)(hn:n∉ss++done)(pm:order.Perm (iT D0 ss))
  (hl:∀y,y∈l↔y∈(D.begin n).held n∨∃x∈order,(∃c∈ss,x∈(D.begin n).has c)∧(y=x∨y∈(D.begin n).jk x)):M_ D0 (j6 (D.begin n) n l) ss (done++[n]) where
 made:=S.made
 iC:=S.iC
 held:=fun c hc=>by
  have P6:c≠n:=fun z=>hn (z▸YI _ hc)
  show(if c=n then l else if c=n then[] else D.held c)=_
  rw[aal P6,aal P6];exact S.held c hc
 stores:=by
  show D.stores++[n]=_
  rw[S.stores,aaK]
 full:=fun s h y=>by
  show y∈(if s=n then l else if s=n then[] else D.held s)↔_
  by_cases e:s=n
  ·rw[aaq e,hl y]
   have hb:(D.begin n).held n=[]:=aaq rfl
   have TK:∀x,(D.begin n).jk x=D0.jk x:=S.jk
   rw[hb]
   constructor
   ·rintro(h|⟨x,hx,_,h⟩)
    ·cases h
    ·rw[TK] at h
     exact yo I (fun c hc=>hs▸hc) (pm.mem_iff.mp hx) h
   ·intro h
    obtain⟨h1,c,hc,h2⟩:=mr.mp h
    have P6:c≠n:=fun z=>hn (z▸YI _ hc)
    refine .inr ⟨y,pm.mem_iff.mpr h,⟨c,hc,CO.mpr ⟨?_,?_⟩⟩,.inl rfl⟩
    ·show y∈D.names
     rw[S.names];exact h1
    ·show y∈(if c=n then[] else D.held c)
     rw[aal P6,S.held c hc];exact h2
  ·rw[aal e,aal e]
   exact S.full s ((Wl.mp h).resolve_right fun z=>e (List.mem_singleton.mp z)) y
theorem Ku{D0 D:Dk}{ss done order l:List Str}{n s:Str}(S:M_ D0 D ss done)(I:Inv D0)(hs:D0.stores=ss)(hn:n∈done)(KW:s∈ss)(pm:order.Perm (iT D0 ss))
  (hl:∀y,y∈l↔y∈D.held s∨∃x∈order,(∃c∈[n],x∈D.has c)∧(y=x∨y∈D.jk x)) (y:Str):y∈l↔y∈iT D0 ss:=by
 rw[hl y,S.held s KW]
 constructor
 ·rintro(h|⟨x,hx,_,h⟩)
  ·exact mr.mpr ⟨(I.k_ s (hs▸KW) y h).1,s,KW,h⟩
  ·rw[S.jk] at h
   exact yo I (fun c hc=>hs▸hc) (pm.mem_iff.mp hx) h
 ·intro h
  refine .inr ⟨y,pm.mem_iff.mpr h,⟨n,List.mem_singleton.mpr rfl,CO.mpr ⟨?_,(S.full n hn y).mpr h⟩⟩,.inl rfl⟩
  rw[S.names];exact(mr.mp h).1
theorem My{D:Dk}{s t:Str}(h:∀y,y∈D.held s↔y∈D.held t)(fl:List Str):G0 D s fl=G0 D t fl:=by
 unfold G0
 congr 1
 refine abG fun f _=>?_
 rw[Ko h,Mr h]
structure Hd(H:Hp)(bl d ss fs th on:Addr)(ns:List Int)(tr ol:List Str):Prop where
 b:H bl=some (.lst [.ref d,.ref ss,.ref fs])
 s:H ss=some (.lst (gi (lV ns)))
 f:H fs=some (.lst (gi (uH ns)))
 t:H th=some (.lst (gi tr))
 o:H on=some (.lst (gi ol))
theorem Hd.same{H H':Hp}{bl d ss fs th on:Addr}{ns:List Int}{tr ol:List Str}(h:Hd H bl d ss fs th on ns tr ol)(s:gj H H'):Hd H' bl d ss fs th on ns tr ol:=⟨s _ _ h.b,s _ _ h.s,s _ _ h.f,s _ _ h.t,s _ _ h.o⟩
theorem Hd.Kv{A:Ad}{D:Dk}{W:Addr→Prop}{H H':Hp}{bl d d' ss fs th on:Addr}{ns:List Int}{tr ol:List Str}(h:Hd H bl d ss fs th on ns tr ol)(X:ig A H d' D W)(s:lZ W H H'):Hd H' bl d ss fs th on ns tr ol:=⟨s _ _ h.b (X.lst h.b),s _ _ h.s (X.lst h.s),s _ _ h.f (X.lst h.f),s _ _ h.t (X.lst h.t),s _ _ h.o (X.lst h.o)⟩
theorem EH{l:List Str}{i:Nat}{z:Str}(h:l[i]?=some z)(f:Str→Bool):(l.take (i+1)).filter f=if f z=true then(l.take i).filter f++[z] else(l.take i).filter f:=by
 rw[take_snoc h,aaH]
 cases e:f z with
 | true=>simp[abh,e]
 | false=>simp[abh,e]
def G1(K:Qqy):Sp:=fun vs H Q _=>∃(a:Addr)(ns:List Int),vs=[.ref a]∧gF K H a (ns.map V.int)∧ns.length≤63∧∀H',Q (.bl true) H'
theorem Pa{f:Addr}{fd:FuncData}(F:xw K "law" "law" D1 f fd)(T:Txt mg)(O:Ok K mg A):ij P w K mg base l5 20 f fd ["script"] (G1 K):=by
 have EV:=@Mp P w K mg base A T O
 have iF:=@GW P w K mg base A T O
 have mJ:=@GX P w K mg base A T O
 have yr:=@Mx P w K mg base A T O
 have xl:=@CP P w K mg base A T O
 have vT:=@Ks P w K mg base A T O
 have p9:=@CQ P w K mg base A T O
 have yN:=@EF P w K mg base A T O
 have vU:=@A3 P w K mg base A T O
 have Al:=@FL P w K mg base A T O
 have i_:=(@CG P w K mg base A T O).Fo
 have qH:=(@Ez P w K mg base A T O).Fo
 refine F.p_ lN fun jm A0 outer s H vs Q E hr h=>?_
 obtain⟨a,ns,rfl,ha,hn,q⟩:=h
 have sz:sizeLine=16777216:=aay
 refine⟨_,(de (ly (i:=1) lN.nd rfl (Or.inr rfl) (nE O.BA EV hr (a_ (pv 0) (a_ gg (a_ (gz iJ (nE O.iX iF hr (a_ (pv 0) (a_ gg d_))) gg) (a_ kI d_))))))
   (de (ly (i:=2) lN.nd rfl (Or.inr rfl) (rD (pv 1) gg))
   (de (lu 3 lN (zb (pv 2) O.gE O.qz.t Al (hr.mono (by decide)) O.qz.b .nil oy))
   (de (O6 (j:=4) "name" GG (gb D1).names [11] lN.nd rfl rfl rfl (ie (pv 3)) rfl (by decide+kernel) (fun _ _ _ _ _=>(iz (i:=11) lN.nd rfl (Or.inr rfl))) (fun _ _ _ _ _=>⟨_,nI (ib Ba (gA gp (by rfl) T.jh aao (a_ (wg GG [(Str.ofString ".0",NameKind.local),(Str.ofString "name",NameKind.cell),(Str.ofString "len",NameKind.globalImplicit),(Str.ofString "built",NameKind.cell),(Str.ofString "desk",NameKind.cell)] [12] rfl (ie (rD (pv 1) gg)) rfl (by decide+kernel) (fun _ _ _ _=>(iz (i:=12) lN.nd rfl (Or.inl rfl))) (fun _ _ _ _=>⟨_,nI (ib Bg (pv 11) (yx (pv 2) O.gE O.ky i_ hr (a_ (pv 12) d_)) rfl),by(try simp only [kD]);rfl⟩) (fun _ _ _ _=>AF (pv 12))) d_)) gg (iA _)),by(try simp only [kD,Km]);rfl⟩) (fun _ _ _ _ _=>AF (pv 11)))
   (de (Bn (j:=5) GG (gb D1).names [6] lN.nd rfl rfl rfl (vX rfl T.kX (a_ gg (a_ gg d_))) rfl (by decide+kernel) (fun _ _ _ _=>(iz (i:=6) lN.nd rfl (Or.inl rfl))) (fun _ _ _ _=>mK) (fun _ _ _ _=>AF (nE O.p6 mJ hr (a_ (gz iJ (nE O.iX iF hr (a_ (pv 0) (a_ gg d_))) gg) (a_ (pv 6) d_)))))
   (de (iu aap rfl (j7 rfl T.kX (a_ gg d_)) (rf 6 lN) (de (gM (yx (pv 2) O.gE O.ur qH hr (a_ (rD (pv 5) (pv 6)) d_)))
   (f_ (gM (nE O.n9 p9 hr (a_ (pv 2) (a_ (rD (pv 5) (pv 6)) (a_ (rD (pv 1) gg) (a_ (nE O.uu vT hr (a_ (pv 4) (a_ (nE O.iX iF hr (a_ (pv 0) (a_ (gz iI gg (pv 6)) d_))) d_))) d_)))))))))
   (de (lu 7 lN (rD (rD (pv 1) gg) (gz iJ (nE O.iX iF hr (a_ (pv 0) (a_ gg d_))) gg)))
   (de (gM (nE O.n9 p9 hr (a_ (pv 2) (a_ (pv 7) (a_ (iU (a_ (rD (pv 5) gg) d_)) (a_ (nE O.uu vT hr (a_ (pv 4) (a_ (nE O.iX iF hr (a_ (pv 0) (a_ gg d_))) d_))) d_))))))
   (de (lu 8 lN (nE O.wV yr hr (a_ (pv 2) (a_ (rD (pv 5) gg) (a_ (rD (pv 1) gg) d_)))))
   (de (iu aap rfl (ie (pv 8)) (rf 9 lN) (f_ (ir ((pw_or (ke (kK (nE O.tV yN hr (a_ (rD (pv 9) gg) d_)))) (pw_or1 (ke (kK (nE O.q8 vU hr (a_ (rD (pv 9) gg) d_)))))).pt) (f_ (gR kI)) g_)))
   (de (iu aap rfl (ie (iU (a_ (rD (pv 5) gg) (a_ (rD (pv 5) gg) (a_ (pv 7) (a_ (rD (pv 5) gg) d_)))))) (rf 10 lN) (f_ (ir ((pw_or (ke (kK (nE O.su xl hr (a_ (yx (pv 2) O.gE O.ky i_ hr (a_ (pv 10) d_)) (a_ (pv 4) d_))))) (pw_or1 (ib (Od 9 (by exact Vu hr)) (nE O.wV yr hr (a_ (pv 2) (a_ (pv 10) (a_ (rD (pv 1) gg) d_)))) (pv 8) (iA _)))).pt) (f_ (gR kI)) g_)))
   (f_ (gR kI))))))))))))),?_⟩
 refine Vv ?_;intro _ _ _ _ _ _ _ _ _ _ _
 have b7:=mod_lt (cellAt ns 4) 17 (by decide)
 obtain⟨n,NA⟩:∃n:Nat,cellAt ns 4%17=(n:Int):=⟨_,(Int.toNat_of_nonneg b7.1).symm⟩
 refine⟨_,rfl,_,rfl,a,ns,4,rfl,ha,by decide,_,_,rfl,rfl,(by show(0:Int)<17;decide),a,ns,8,n,true,?_,ha,by omega,by decide,by decide,by omega,fun bl d ss fs D W H1 B=>?_⟩
 ·show[V.ref a,V.int 8,V.int (cellAt ns 4%17),V.bl true]=_
  rw[NA]
 have s1:=B.same
 have n7:n<17:=by omega
 have Z2:Sz 35 D:=by
  have h1:=B.sz.many
  have h2:=B.sz.iB
  have h3:=B.sz.j0
  have h4:n*n≤16*16:=Nat.mul_le_mul (by omega) (by omega)
  exact⟨by omega,by omega,by omega⟩
 have sm:=Z2.small (by decide)
 have jI:=sm.many
 have hml:D.made.length≤35:=Z2.many
 have X1:=B.VJ
 have I:=B.inv
 obtain⟨π,y⟩:=id X1
 have hnf:∀x∈D.names,jV x:=fun x hx=>by
  obtain⟨j,_,e⟩:=B.names x hx
  rw[e];exact(lq _ _).rb
 have Lb:D.names.length≤35:=by
  unfold Dk.names
  rw[So];exact hml
 have xc:∀s∈lV ns,s∈D.stores:=fun s h=>by rw[B.stores];exact h
 refine⟨_,rfl,bl,_,_,_,rfl,rfl,gF.of B.at_,ic (j:=0) rfl rfl,?_⟩
 refine⟨_,rfl,d,π.dx,_,rfl,y.hd,FK,d,D,W,rfl,X1,fun p hp=>?_⟩
 have s2:=(gj.refl H1).new (o:=.lst (gi D.names)) hp
 have u2:(upd H1 p (.lst (gi D.names))) p=some (.lst (gi D.names)):=b_
 generalize upd H1 p (.lst (gi D.names))=H2 at s2 u2
 let Jv:=fun(i:Nat) (ys:List V) (σ:St) (H3:Hp)=>∃(v11:Option V),σ=[rr a,rr bl,rr d,rr p,none,none,none,none,none,none,none,v11,none]∧gj H2 H3∧ys=gi ((D.names.take i).filter fun x=>(lV ns).any fun c=>decide (x∈D.held c))
 refine⟨_,rfl,p,rfl,⟨_,gF.of u2⟩,jY (K:=K) (a:=p) (xs:=gi D.names) (by rw[So];omega) Jv
  ⟨none,rfl,gj.refl _,rfl⟩ (by rintro _ _ _ _ _ ⟨_,_,e,e2⟩;exact⟨gF.of (e _ _ u2),by rw[e2,So];exact aac (aaG _ _) (by rw[aaB];omega)⟩) ?_ ?_⟩
 ·rintro i v ys σ H3 hv ⟨v11,rfl,s3,rfl⟩
  obtain⟨x,hx,rfl⟩:=jM hv
  have Uo:=Vs hx
  have BQ:=s2.trans s3
  let Jv:=fun(j:Nat) (ys:List V) (σ:St) (H4:Hp)=>∃(Xu:Option V),σ=[rr a,rr bl,rr d,rr p,none,none,none,none,none,none,none,rs x,Xu]∧gj H3 H4∧ys.length≤j∧decide (0<ys.length)=((lV ns).take j).any fun c=>decide (x∈D.held c)
  refine⟨_,rfl,bl,_,_,_,rfl,rfl,gF.of (BQ _ _ B.at_),ic (j:=1) rfl rfl,ss,rfl,⟨_,gF.of (BQ _ _ B.st)⟩,jY (K:=K) (a:=ss) (xs:=gi (lV ns)) (by simp[lV];omega) Jv
   ⟨none,rfl,gj.refl _,Vx _,rfl⟩ (by rintro _ _ _ _ _ ⟨_,_,e,e2,_⟩;exact⟨gF.of (e _ _ (BQ _ _ B.st)),e2⟩) ?_ ?_⟩
  ·rintro j v ys σ H4 hv ⟨Xu,rfl,s4,Qt,hy⟩
   obtain⟨c,hc,rfl⟩:=jM hv
   have K9:=Vs hc
   have A9:=BQ.trans s4
   refine⟨_,rfl,_,rfl,d,π.dx,_,rfl,A9 _ _ y.hd,pb,_,rfl,d,D,W,c,rfl,X1.same A9,(sH c K9).rb,jI,fun h=>absurd (xc c K9) h,fun _ p5 PQ=>?_⟩
   have s5:=s4.new (o:=.lst (gi (D.has c))) PQ
   have eb:Ls (.str x) (gi (D.has c))=decide (x∈D.held c):=by
    rw[Ae,decide_eq_decide,CO]
    exact⟨fun z=>z.2,fun z=>⟨Uo,z⟩⟩
   refine⟨p5,_,rfl,.inl (gF.of b_),rfl,by simp[gi,lB],_,rfl,kq (fun hb=>?_) (fun hb=>?_)⟩
   ·have hb:Ls (V.str x) (gi (D.has c))=true:=hb
    refine⟨_,rfl,_,rfl,s5,by rw[Vq];exact Nat.succ_le_succ Qt,?_⟩
    rw[take_snoc hc,List.any_append,Vq]
    rw[eb] at hb
    simp[aau hb]
   ·have hb:¬Ls (V.str x) (gi (D.has c))=true:=hb
    refine⟨_,rfl,s5,Nat.le_succ_of_le Qt,?_⟩
    rw[take_snoc hc,List.any_append,hy]
    rw[eb] at hb
    simp only [aa3] at hb
    simp[hb]
  ·rintro ys σ H4 ⟨Xu,rfl,s4,Qt,hy⟩ p5 PQ
   rw[So,aak] at hy
   have s5:=(s3.trans s4).new (o:=.lst ys) PQ
   have MM:=EH hx fun x=>(lV ns).any fun c=>decide (x∈D.held c)
   rw[←hy] at MM
   refine⟨p5,_,rfl,.inl (gF.of b_),_,_,rfl,rfl,_,rfl,kq (fun hb=>?_) (fun hb=>?_)⟩
   ·have hb:0<ys.length:=by have:=aau hb;omega
    rw[Vy hb,aaq rfl] at MM
    exact⟨_,rfl,_,rfl,s5,by rw[MM];exact i8 _ _⟩
   ·have hb:¬0<ys.length:=fun z=>hb (Vy (by omega))
    rw[aab hb,aal (by decide)] at MM
    exact⟨_,rfl,s5,by rw[MM]⟩
 rintro ys σ H3 ⟨v11,rfl,s3,rfl⟩ th hth
 rw[So,aak]
 rw[show(D.names.filter fun x=>(lV ns).any fun c=>decide (x∈D.held c))=iT D (lV ns) from rfl]
 have A9:=(s2.trans s3).new (o:=.lst (gi (iT D (lV ns)))) hth
 have u4:(upd H3 th (.lst (gi (iT D (lV ns))))) th=some (.lst (gi (iT D (lV ns)))):=b_
 generalize upd H3 th (.lst (gi (iT D (lV ns))))=H4 at A9 u4
 have ME:(iT D (lV ns)).length≤35:=aac (aaG _ _) Lb
 have Xv:∀x∈iT D (lV ns),jV x:=fun x hx=>hnf x (mr.mp hx).1
 refine⟨_,_,rfl,⟨by decide,by decide,by decide,by decide⟩,?_⟩
 let Jv:=fun(m:Nat) (ys:List V) (σ:St) (H5:Hp)=>∃(v6:Option V),σ=[rr a,rr bl,rr d,rr p,rr th,none,v6,none,none,none,none,none,none]∧H5=H4∧ys=gi ((List.range m).map fun(j:Nat)=>nameOf (mq ns 0) (5+(j:Int)))
 refine rB (lo:=5) (n:=2) (by decide) Jv ⟨none,rfl,rfl,rfl⟩ (by rintro _ _ _ _ ⟨_,_,_,e⟩;rw[e];simp) ?_ ?_
 ·rintro m ys σ H5 hm ⟨v6,rfl,rfl,rfl⟩
  refine⟨_,rfl,a,ns,0,rfl,mz ha (s1.trans A9),by decide,_,_,rfl,rfl,(by show(0:Int)<20736;decide),_,rfl,_,_,rfl,?_⟩
  refine⟨_,rfl,rfl,?_⟩
  rw[acb,aat,←mF]
  rfl
 rintro ys σ H5 ⟨v6,rfl,rfl,rfl⟩ on Z3
 have eon:gi ((List.range 2).map fun(j:Nat)=>nameOf (mq ns 0) (5+(j:Int)))=gi [nameOf (mq ns 0) 5,nameOf (mq ns 0) 6]:=rfl
 rw[eon]
 have Iz:=A9.new (o:=.lst (gi [nameOf (mq ns 0) 5,nameOf (mq ns 0) 6])) Z3
 have HD:Hd (upd H5 on (.lst (gi [nameOf (mq ns 0) 5,nameOf (mq ns 0) 6]))) bl d ss fs th on ns (iT D (lV ns)) [nameOf (mq ns 0) 5,nameOf (mq ns 0) 6]:=⟨Iz _ _ B.at_,Iz _ _ B.st,Iz _ _ B.fl,il Z3 u4,b_⟩
 generalize upd H5 on (.lst (gi [nameOf (mq ns 0) 5,nameOf (mq ns 0) 6]))=H6 at Iz HD
 have Iu:∀k:Nat,k<2→nameOf (mq ns 0) (5+(k:Int))∉lV ns++(List.range k).map fun(j:Nat)=>nameOf (mq ns 0) (5+(j:Int)):=fun k hk z=>by
  rcases Wl.mp z with z|z
  ·unfold lV at z
   simp only [Wg,abL,or_false] at z
   rcases z with z|z|z<;>exact absurd (vN (by omega) (by omega) (by decide) (by decide) z) (by omega)
  ·obtain⟨j,hj,e⟩:=List.mem_map.mp z
   have hj:=List.mem_range.mp hj
   have:=vN (by omega) (by omega) (by omega) (by omega) e
   omega
 have WQ:∀k:Nat,k<2→(gi [nameOf (mq ns 0) 5,nameOf (mq ns 0) 6])[k]?=some (V.str (nameOf (mq ns 0) (5+(k:Int)))):=fun k hk=>by
  rcases k with _|_|k
  ·rfl
  ·rfl
  ·omega
 have e56:(List.range 2).map (fun(j:Nat)=>nameOf (mq ns 0) (5+(j:Int)))=[nameOf (mq ns 0) 5,nameOf (mq ns 0) 6]:=rfl
 generalize TL:iT D (lV ns)=tr at HD ME Xv
 dsimp only [k7];refine Ht ?_;intro _
 refine⟨_,rfl,by decide,by decide,?_⟩
 let Jv:=fun(i:Nat) (σ:St) (H7:Hp)=>∃(v6:Option V)(E:Dk)(Wv:Addr→Prop),σ=[rr a,rr bl,rr d,rr p,rr th,rr on,v6,none,none,none,none,none,none]∧gj H H7∧Hd H7 bl d ss fs th on ns tr [nameOf (mq ns 0) 5,nameOf (mq ns 0) 6]∧ig A H7 d E Wv∧(∀b,Wv b→H b=none)∧Inv E∧M_ D E (lV ns) ((List.range i).map fun(j:Nat)=>nameOf (mq ns 0) (5+(j:Int)))
 refine k8 Jv
  ⟨none,D,W,rfl,s1.trans Iz,HD,X1.same Iz,B.own,I,rfl,rfl,fun _ _=>rfl,by rw[B.stores];exact(aaJ _).symm,fun s h=>by cases h⟩ ?_ ?_
 ·rintro i σ H7 hi ⟨v6,E,Wv,rfl,s7,Le,X7,hV,I7,S7⟩
  have hi:i<2:=hi
  rw[show(0:Int)+(i:Int)=(i:Int) by omega]
  have TM:=Iu i hi
  have Iv:DC (gi [nameOf (mq ns 0) 5,nameOf (mq ns 0) 6]) (i:Int)=some (.str (nameOf (mq ns 0) (5+(i:Int)))):=ic (j:=i) rfl (WQ i hi)
  have gn:=lq (mq ns 0) (5+(i:Int))
  have Xw:(List.range (i+1)).map (fun(j:Nat)=>nameOf (mq ns 0) (5+(j:Int)))=(List.range i).map (fun(j:Nat)=>nameOf (mq ns 0) (5+(j:Int)))++[nameOf (mq ns 0) (5+(i:Int))]:=by rw[acb,aat];rfl
  have Sw:((List.range i).map fun(j:Nat)=>nameOf (mq ns 0) (5+(j:Int))).length<3:=by rw[So,abX];omega
  generalize nameOf (mq ns 0) (5+(i:Int))=st at TM Iv gn Xw
  generalize (List.range i).map (fun(j:Nat)=>nameOf (mq ns 0) (5+(j:Int)))=done at TM S7 Xw Sw
  obtain⟨π7,y7⟩:=id X7
  have Gb:st∉E.stores:=by rw[S7.stores];exact TM
  refine⟨_,rfl,d,π7.dx,_,rfl,y7.hd,Ew,_,rfl,_,rfl,on,_,_,_,rfl,rfl,gF.of Le.o,Iv,d,E,Wv,st,rfl,X7,gn.rb,?_,fun h=>absurd gn h,fun _ h=>absurd h Gb,fun _ _ H8 V8 X8 x8 hV8=>?_⟩
  ·rw[S7.stores,Vq]
   have:(lV ns).length=3:=rfl
   omega
  have QD:=Le.Kv X7 x8
  have s8:gj H H8:=fun b o e=>x8 b o (s7 _ _ e) (fun hb=>by rw[hV b hb] at e;cases e)
  have Z4:∀b,V8 b→H b=none:=fun b hb=>(hV8 b hb).elim (hV b) fun h=>s7.free h
  have I8:=I7.begin Gb
  have Xx:uw (E.begin st).made.length:=by show uw E.made.length;rw[S7.made];exact jI
  have Xy:st∈(E.begin st).stores:=by show st∈E.stores++[st];simp
  refine⟨_,rfl,_,rfl,_,rfl,on,_,_,_,rfl,rfl,gF.of QD.o,Iv,_,rfl,bl,_,_,_,rfl,rfl,gF.of QD.b,ic (j:=1) rfl rfl,_,rfl,_,rfl,_,rfl,_,_,rfl,rfl,a,ns,_,rfl,mz ha s8,by omega,th,tr,_,rfl,QD.t,by omega,fun om H9 order s9 Xz P7 pm=>?_⟩
  rw[←TL] at pm
  have XA:∀x∈order,jV x:=fun x hx=>Xv x (TL▸pm.mem_iff.mp hx)
  have Z5:=QD.same s9
  refine⟨d,ss,om,E.begin st,V8,st,lV ns,order,rfl,X8.same s9,I8,Xx,Xy,gn.rb,Z5.s,P7,fun c hc=>⟨?_,(sH c hc).rb,fun z=>TM (z▸YI _ hc)⟩,XA,fun PX l QE TN UP hl=>?_⟩
  ·show c∈E.stores++[st]
   rw[S7.stores]
   exact YI _ (YI _ hc)
  refine⟨_,_,_,rfl,fun b o e=>UP b o (s9 _ _ (s8 _ _ e)) (fun hb=>by rw[Z4 b hb] at e;cases e),Z5.Kv (X8.same s9) UP,QE,Z4,TN,?_⟩
  rw[Xw]
  exact Kt S7 I B.stores TM pm hl
 rintro σ H7 ⟨v6,E,Wv,rfl,s7,Le,X7,hV,I7,S7⟩
 rw[show(Int.toNat 2)=2 from rfl,e56] at S7
 have g5:=lq (mq ns 0) 5
 have g6:=lq (mq ns 0) 6
 have NB:∀s∈[nameOf (mq ns 0) 5,nameOf (mq ns 0) 6],s∉lV ns:=fun s h z=>by
  rcases Wg.mp h with e|h
  ·exact Iu 0 (by decide) (YI _ (e▸z))
  ·rw[List.mem_singleton.mp h] at z
   exact Iu 1 (by decide) (YI _ z)
 generalize nameOf (mq ns 0) 5=n5 at Le S7 g5 NB
 generalize nameOf (mq ns 0) 6=n6 at Le S7 g6 NB
 have b3:=mod_lt (cellAt ns 7) 3 (by decide)
 obtain⟨vl,evl,Xm⟩:=pC (xs:=gi (lV ns)) b3.1 b3.2
 obtain⟨la,QB,rfl⟩:=jM Xm
 have La:=Vs QB
 have gl:=sH la La
 refine⟨_,rfl,bl,_,_,_,rfl,rfl,gF.of Le.b,ic (j:=1) rfl rfl,_,rfl,a,ns,7,rfl,mz ha s7,by decide,_,_,rfl,rfl,(by show(0:Int)<3;decide),ss,_,_,_,rfl,rfl,gF.of Le.s,evl,?_⟩
 refine⟨_,rfl,_,rfl,_,rfl,on,_,_,_,rfl,rfl,gF.of Le.o,ic (j:=0) rfl rfl,L2.jI,fun so Nz=>?_⟩
 have UQ:=(gj.refl H7).new (o:=.lst [V.str n5]) Nz
 have u8:(upd H7 so (.lst [V.str n5])) so=some (.lst (gi [n5])):=b_
 generalize upd H7 so (.lst [V.str n5])=H8 at UQ u8
 have QD:=Le.same UQ
 refine⟨_,rfl,_,rfl,a,ns,7,rfl,mz ha (s7.trans UQ),by decide,th,tr,_,rfl,QD.t,by omega,fun om H9 order s9 Xz P7 pm=>?_⟩
 rw[←TL] at pm
 have XA:∀x∈order,jV x:=fun x hx=>Xv x (TL▸pm.mem_iff.mp hx)
 have XC:uw E.made.length:=by rw[S7.made];exact jI
 have Z6:la∈E.stores:=by rw[S7.stores];exact YI _ La
 have Pk:∀s∈[n5,n6],s∈E.stores:=fun s h=>by rw[S7.stores];exact aaA _ h
 have XD:=UQ.trans s9
 refine⟨d,so,om,E,Wv,la,[n5],order,rfl,X7.same XD,I7,XC,Z6,gl.rb,s9 _ _ u8,P7,fun c hc=>?_,XA,fun PX l QE TN UP hl=>?_⟩
 ·rw[List.mem_singleton.mp hc]
  exact⟨Pk n5 (by simp),g5.rb,fun z=>NB n5 (by simp) (z▸La)⟩
 have SN:=Ku S7 I B.stores (by simp) La pm hl
 have MN:=(Le.same XD).Kv (X7.same XD) UP
 have XE:∀s∈[n5,n6,la,n5],s∈(j6 E la l).stores∧Good s∧∀y,y∈(j6 E la l).held s↔y∈iT D (lV ns):=fun s h=>by
  have old:∀s∈[n5,n6],∀y,y∈(j6 E la l).held s↔y∈iT D (lV ns):=fun s h y=>by
   show y∈(if s=la then l else E.held s)↔_
   rw[aal (fun z:s=la=>NB s h (z▸La))]
   exact S7.full s h y
  simp only [Wg,abL,or_false] at h
  rcases h with rfl|rfl|rfl|rfl
  ·exact⟨Pk _ (by simp),g5,old _ (by simp)⟩
  ·exact⟨Pk _ (by simp),g6,old _ (by simp)⟩
  ·exact⟨Z6,gl,fun y=>by rw[xb];exact SN y⟩
  ·exact⟨Pk _ (by simp),g5,old _ (by simp)⟩
 have Z7:(j6 E la l).names=D.names:=S7.names
 have UR:Small (j6 E la l).made:=by show Small E.made;rw[S7.made];exact sm
 generalize j6 E la l=Fd at QE TN XE Z7 UR
 obtain⟨πF,yF⟩:=id QE
 have TQ:(uH ns).length≤1000:=by simp[uH]
 obtain⟨hs5,_,hf5⟩:=XE n5 (by simp)
 refine⟨_,rfl,_,rfl,on,_,_,_,rfl,rfl,gF.of MN.o,ic (j:=0) rfl rfl,_,rfl,bl,_,_,_,rfl,rfl,gF.of MN.b,ic (j:=2) rfl rfl,d,fs,Fd,Wv,n5,uH ns,rfl,QE,TN,UR,hs5,g5.rb,MN.f,TQ,fun du ZR Z8 hdu0 rep=>?_⟩
 obtain⟨_,vs,m,e,Z9,Sw,WC⟩:=Rep.Mt rep
 cases e
 dsimp only [k7];refine Ht ?_;intro _
 let Jv:=fun(i:Nat) (σ:St) (QF:Hp)=>∃(v9:Option V),σ=[rr a,rr bl,rr d,rr p,rr th,rr on,v6,rs la,rr du,v9,none,none,none]∧QF=ZR
 refine⟨_,rfl,du,rfl,⟨_,gF.of Z9⟩,iH (K:=K) (a:=du) (xs:=vs) Jv
  ⟨none,rfl,rfl⟩ (by rintro _ _ _ _ ⟨_,_,e⟩;rw[e];exact gF.of Z9) ?_ ?_⟩
 ·rintro i u σ QF hu ⟨v9,rfl,rfl⟩
  have Nj:i<(uH ns).length:=by
   have:=(List.getElem?_eq_some_iff.mp hu).1
   rw[Sw,So] at this
   exact this
  have hp:=WC i u _ hu (by rw[aae,Su Nj];rfl)
  obtain⟨pa,ws,m2,rfl,Nq,Ir,Z_⟩:=Rep.Mt hp
  obtain⟨x,y,rfl⟩:∃x y,ws=[x,y]:=by
   rcases ws with _|⟨x,_|⟨y,_|⟨_,_⟩⟩⟩
   ·cases Ir
   ·cases Ir
   ·exact⟨x,y,rfl⟩
   ·cases Ir
  refine⟨_,rfl,pa,_,_,_,rfl,rfl,gF.of Nq,ic (j:=0) rfl rfl,x,m2,_,rfl,Z_ 0 _ _ rfl rfl,_,rfl,jz ?_⟩
  exact⟨_,rfl,pa,_,_,_,rfl,rfl,gF.of Nq,ic (j:=1) rfl rfl,y,m2,_,rfl,Z_ 1 _ _ rfl rfl,_,rfl,jz ⟨_,rfl,rfl⟩⟩
 rintro σ QF ⟨v9,rfl,rfl⟩
 have MO:=MN.same Z8
 dsimp only [k7];refine Ht ?_;intro _
 refine⟨_,rfl,on,_,_,_,rfl,rfl,gF.of MO.o,ic (j:=0) rfl rfl,_,rfl,on,_,_,_,rfl,rfl,gF.of MO.o,ic (j:=1) rfl rfl,_,rfl,_,rfl,on,_,_,_,rfl,rfl,gF.of MO.o,ic (j:=0) rfl rfl,L2.jI,fun sl Ql=>?_⟩
 have BP:=(gj.refl QF).new (o:=.lst (gi [n5,n6,la,n5])) Ql
 have u12:(upd QF sl (.lst (gi [n5,n6,la,n5]))) sl=some (.lst (gi [n5,n6,la,n5])):=b_
 have XF:=Z8.trans BP
 have rep:=rep.same BP
 let Jv:=fun(i:Nat) (σ:St) (US:Hp)=>∃(v10:Option V),σ=[rr a,rr bl,rr d,rr p,rr th,rr on,v6,rs la,rr du,v9,v10,none,none]∧gj (upd QF sl (.lst (gi [n5,n6,la,n5]))) US
 refine⟨sl,rfl,⟨_,gF.of u12⟩,iH (K:=K) (a:=sl) (xs:=gi [n5,n6,la,n5]) Jv ⟨none,rfl,gj.refl _⟩ (by rintro _ _ _ _ ⟨_,_,e⟩;exact gF.of (e _ _ u12)) ?_ ?_⟩
 ·rintro i v σ US hv ⟨v10,rfl,BQ⟩
  obtain⟨st,xc,rfl⟩:=jM hv
  obtain⟨hsS,gS,hfS⟩:=XE st (Vs xc)
  have HDb:=MO.same (BP.trans BQ)
  have NC:=XF.trans BQ
  have XS:=QE.same NC
  refine⟨_,rfl,d,πF.dx,_,rfl,NC _ _ yF.hd,pb,_,rfl,d,Fd,Wv,st,rfl,XS,gS.rb,UR.many,fun h=>absurd hsS h,fun _ p14 XG=>?_⟩
  rw[Ic Z7 hfS]
  have A9:=(gj.refl US).new (o:=.lst (gi (iT D (lV ns)))) XG
  refine⟨_,rfl,p14,th,iT D (lV ns),tr,rfl,b_,A9 _ _ HDb.t,?_⟩
  rw[Vy TL]
  refine⟨_,rfl,jz ?_⟩
  have HDc:=HDb.same A9
  refine⟨_,rfl,_,rfl,_,rfl,bl,_,_,_,rfl,rfl,gF.of HDc.b,ic (j:=2) rfl rfl,d,fs,Fd,Wv,st,uH ns,rfl,XS.same A9,TN,UR,hsS,gS.rb,HDc.f,TQ,fun r H15 Iz _ rep2=>?_⟩
  rw[My fun y=>(hfS y).trans (hf5 y).symm] at rep2
  have rp:=((rep.same BQ).same A9).same Iz
  exact⟨_,rfl,_,⟨r,du,rfl,rfl⟩,Rep.eq (rep2.mono (by decide)) (rp.mono (by decide)),_,rfl,jz ⟨_,rfl,(BQ.trans A9).trans Iz⟩⟩
 ·rintro σ US ⟨v10,rfl,BQ⟩
  exact q _
end
end PK
namespace TW
open PySem PySem.W L2 PK
noncomputable section
noncomputable abbrev S:=Str.ofString
noncomputable abbrev ob:=Obj.mk
noncomputable abbrev v(x:String)(t:Nat):Value:=.str (S x) t
noncomputable abbrev r:=Value.ref
noncomputable abbrev vi:=Value.int
noncomputable abbrev i(n:Int):=Value.int n 0
noncomputable abbrev vn:=Value.none
noncomputable abbrev w:=Value.type
noncomputable abbrev b:=Value.builtin
noncomputable abbrev vl:=Value.bool
noncomputable abbrev cl:=ClassData.mk
noncomputable abbrev k:=@some Value
noncomputable abbrev d(P:Params)(x:String)(t:Nat)(y:Value):DictEntry:=.mk (PyData.keyHash P (S x)) (v x t) y
noncomputable abbrev x:=top
noncomputable abbrev y(i j:Nat):=inClass (top i) j
noncomputable abbrev n:=BT.node
noncomputable abbrev z:=BT.nil
noncomputable abbrev f(o:Obj):BT:=n o z z
noncomputable abbrev of(c:String)(l:List Value):Obj:=ob (w c) none (.fields l.toArray) #[]
noncomputable abbrev tp(l:List Value):Obj:=ob (w "tuple") none (.seq l.toArray 0) #[]
noncomputable abbrev fl(l:List Value):Obj:=ob vn none (.fields l.toArray) #[]
noncomputable abbrev l3(l:List (Int×Int×Addr)):Obj:=fl (l.flatMap fun(a,b,c)=>[i a,i b,r c])
noncomputable abbrev fd(n q:Str)(st:Stmt)(g:Addr)(c:List (Str×Addr))(d kd doc pm:Value)(an:Option Addr)(co ct:Value)(b:Addr):FuncData:=⟨n,q,ox st,.stmts (kT st),gb st,g,c,d,kd,doc,pm,an,co,ct,b⟩
noncomputable abbrev fn(a b:String)(st:Stmt)(m:String)(t:Nat)(c:Addr):Obj:=ob (w "function") none (.func (fd (S a) (S b) st 3 [] vn vn vn (v m t) none (r c) vn 0)) #[]
noncomputable abbrev fv(a b:String)(st:Stmt):Obj:=ob vn none (.func (fd (S a) (S b) st 0 [] vn vn vn vn none vn vn 0)) #[]
noncomputable abbrev dt(l:List DictEntry)(c:Nat):Obj:=ob (w "dict") none (.dict l.toArray c) #[]
noncomputable abbrev fr(l:List (Option Value)):Obj:=ob (w "frame") none .plain l.toArray
noncomputable abbrev ty(c:ClassData)(l:List (Option Value)):Obj:=ob (w "type") none (.cls c) l.toArray
noncomputable abbrev o0:Addr→Value|0=>vn|a+1=>r (a+1)
noncomputable abbrev co(a b:String)(t:Nat)(l p q:Int)(c:Addr)(g:Int)(ys:List Addr)(u:Nat):Obj:=of "code" ([v a t,v b (t+1),v "/claim/cut.py" (t+2),i l,i p,i 0,i 0,i q,r c,vl true,i g]++ys.map o0++[i u,i l,v "/claim/cut.py" (u+1)])
noncomputable def hO(P:Params):List DictEntry:=[(d P "__doc__" 166 vn),(d P "__package__" 167 vn),(d P "__loader__" 168 (b "__main__.__loader__#opaque")),(d P "__spec__" 169 vn),(d P "__annotations__" 170 (r 6)),(d P "__builtins__" 171 (r 4)),(d P "__file__" 173 (v "/claim/cut.py" 172)),(d P "__cached__" 174 vn),(d P "_wall" 193 (r 21)),(d P "counts_with" 206 (r 28)),(d P "most_pairs" 212 (r 33)),(d P "place_from" 222 (r 40)),(d P "kept" 235 (r 47)),(d P "PatchError" 255 (r 57))]
def hP(P:Params):List DictEntry:=hO P++[(d P "BadName" 271 (r 70))]
def hQ(P:Params):List DictEntry:=hP P++[(d P "NameTaken" 287 (r 82))]
def hR(P:Params):List DictEntry:=hQ P++[(d P "NoStore" 303 (r 94))]
def hS(P:Params):List DictEntry:=hR P++[(d P "NoPatch" 319 (r 106))]
def hT(P:Params):List DictEntry:=hS P++[(d P "NoLine" 335 (r 118))]
def hU(P:Params):List DictEntry:=hT P++[(d P "Unsettled" 351 (r 130))]
def hV(P:Params):List DictEntry:=hU P++[(d P "Same" 367 (r 142))]
def hW(P:Params):List DictEntry:=hV P++[(d P "Leant" 383 (r 154))]
def hX(P:Params):List DictEntry:=hW P++[(d P "Line" 420 (r 173))]
def hY(P:Params):List DictEntry:=hX P++[(d P "Patch" 457 (r 194)),(d P "lines_named_by" 463 (r 203)),(d P "leans_straight_on" 469 (r 208)),(d P "live_patches" 479 (r 215)),(d P "lines_put" 489 (r 222)),(d P "standing_lines" 495 (r 227)),(d P "files_with_lines" 501 (r 232))]
def hZ(P:Params):List DictEntry:=hY P++[(d P "straight_ahead" 510 (r 239)),(d P "joined" 520 (r 246)),(d P "all_ahead" 526 (r 251)),(d P "first_free" 534 (r 258)),(d P "row_of" 540 (r 263))]
def h0(P:Params):List DictEntry:=hZ P++[(d P "Sight" 604 (r 308)),(d P "NAME_SIGNS" 608 (v "abcdefghijklmnopqrstuvwxyz0123456789" 607)),(d P "LONGEST_NAME" 610 (vi 12 609))]
def h1(P:Params):List DictEntry:=h0 P++[(d P "check_name" 618 (r 319)),(d P "check_places" 628 (r 326)),(d P "kept_behind" 638 (r 333)),(d P "new_lines" 652 (r 340)),(d P "changing_patch" 658 (r 345))]
def h2(P:Params):List DictEntry:=h1 P++[(d P "Desk" 861 (r 502))]
def h3(P:Params):List DictEntry:=h2 P++[(d P "_law_cell_at" 871 (r 513)),(d P "_law_draw" 881 (r 520)),(d P "_law_name" 895 (r 527)),(d P "_law_text" 901 (r 532)),(d P "_law_edit" 915 (r 539)),(d P "_law_deed" 921 (r 544)),(d P "_law_desk" 927 (r 549)),(d P "_law_whole" 934 (r 556)),(d P "_law_row_form" 942 (r 563)),(d P "_law_pairs_form" 950 (r 570)),(d P "_law_names_are" 959 (r 577)),(d P "_law_seen" 965 (r 582))]
def h4(P:Params):List DictEntry:=h3 P++[(d P "_law_mixed" 977 (r 589)),(d P "_law_takes_all" 989 (r 596)),(d P "law" 995 (r 601))]
def aa:Obj:=tp []
def ab:Obj:=fl []
def ac:Obj:=of "builtin_function_or_method" [(b "type.__prepare__"),(w "type")]
def ad:Obj:=tp [(r 57)]
def ae:Obj:=of "code" [(v "<module>" 182),(v "<module>" 183),(v "/claim/cut.py" 184),(i 1),(i 0),(i 0),(i 0),(i 0),(r 11),(vl false),(i 181),(r 12),vn,vn,vn,vn,(i 185),(i 1),(v "/claim/cut.py" 186)]
def af:Obj:=fr [(k (r 13)),(k (r 3)),(k (r 3)),none,(k (v "__main__" 164)),none,(k (r 0))]
noncomputable def ag:Obj:=fn "kept" "kept" (x 5) "patchkin.differ" 194 46
def ah:Obj:=co "place_from" "place_from" 213 18 3 3 34 181 [35,0,36,37,38] 220
def ai:Obj:=co "counts_with" "counts_with" 196 5 3 3 22 181 [23,0,24,25,26] 204
noncomputable def aj:Obj:=tp [(v "old" 226),(v "new" 227),(v "table" 228),(v "pairs" 229),(v "start" 230),(v "first" 231),(v "second" 232)]
def ak:Obj:=tp [(v "k" 190)]
def al:Obj:=fn "most_pairs" "most_pairs" (x 3) "patchkin.differ" 194 32
def am:Obj:=fn "_wall" "_wall" (x 0) "__main__" 164 20
def an:Obj:=co "most_pairs" "most_pairs" 207 13 2 3 29 181 [30,0,0,0,31] 210
def ao:Obj:=tp [(w "ValueError")]
def ap:Obj:=tp [(v "text" 199),(v "new" 200),(v "below" 201),(v "counts" 202),(v "second" 203)]
def aq:Obj:=fn "place_from" "place_from" (x 4) "patchkin.differ" 194 39
def ar(P:Params):Obj:=dt [(d P "__module__" 245 (v "patchkin.errors" 236)),(d P "__firstlineno__" 249 (vi 34 248)),(d P "__static_attributes__" 250 (r 55)),(d P "__weakref__" 252 (r 58)),(d P "__doc__" 253 vn)] 3
def au:Obj:=co "_wall" "_wall" 187 1 1 3 15 181 [16,0,17,18,19] 191
noncomputable def av:Obj:=tp [(v "texts" 216),(v "text" 217),(v "start" 218),(v "place" 219)]
def aw:Obj:=fn "counts_with" "counts_with" (x 2) "patchkin.differ" 194 27
def ax:Obj:=of "getset_descriptor" [(v "__weakref__" 251),(r 57),(b "ExceptionGroup.__weakref__"),vn]
noncomputable def ay:Obj:=co "kept" "kept" 223 23 2 3 41 181 [42,0,43,44,45] 233
def az:Obj:=fv "most_pairs" "most_pairs" (x 3)
def aA:Obj:=fv "_wall" "_wall" (x 0)
def aB:Obj:=of "super" [(r 57),(r 57),(r 57)]
def aC(P:Params):Obj:=dt [(d P "__module__" 263 (v "patchkin.errors" 236)),(d P "__firstlineno__" 267 (vi 36 266)),(d P "__static_attributes__" 268 (r 68)),(d P "__doc__" 269 vn)] 2
def aD:Obj:=of "code" [(v "PatchError" 240),(v "PatchError" 241),(v "/claim/cut.py" 242),(i 34),(i 0),(i 0),(i 0),(i 0),(r 51),(vl false),(i 181),(r 52),vn,vn,vn,vn,(i 243),(i 34),(v "/claim/cut.py" 244)]
noncomputable def aE:Obj:=fv "kept" "kept" (x 5)
def aF:Obj:=of "builtin_function_or_method" [(b "object.__init_subclass__"),(r 57)]
def aG(P:Params):Obj:=dt [(d P "__module__" 245 (v "patchkin.errors" 236)),(d P "__qualname__" 247 (v "PatchError" 246)),(d P "__firstlineno__" 249 (vi 34 248)),(d P "__static_attributes__" 250 (r 55))] 4
def aH:Obj:=fv "counts_with" "counts_with" (x 2)
def aI:Obj:=fv "place_from" "place_from" (x 4)
def aJ:Obj:=ty (cl (S "BadName") [(r 57)] [(r 70),(r 57),(w "ValueError"),(w "Exception"),(w "BaseException"),(w "object")] 69 (S "BadName") true [] [] false none false) [(k (r 61)),none,(k (v "BadName" 256)),(k (v "BadName" 264)),(k (b "ValueError.__new__")),(k (vl true))]
def aK:Obj:=fr [(k (r 53)),(k (r 3)),(k (r 50)),none,(k (v "patchkin.errors" 236)),none,(k (r 0))]
def aL(P:Params):Obj:=dt [(d P "__module__" 263 (v "patchkin.errors" 236)),(d P "__qualname__" 265 (v "BadName" 264)),(d P "__firstlineno__" 267 (vi 36 266)),(d P "__static_attributes__" 268 (r 68))] 4
def aM:Obj:=of "super" [(r 70),(r 70),(r 70)]
def aN:Obj:=fr [(k (r 66)),(k (r 3)),(k (r 63)),none,(k (v "patchkin.errors" 236)),none,(k (r 0))]
def aO(P:Params):Obj:=dt [(d P "__module__" 279 (v "patchkin.errors" 236)),(d P "__firstlineno__" 283 (vi 38 282)),(d P "__static_attributes__" 284 (r 80)),(d P "__doc__" 285 vn)] 2
def aP:Obj:=of "builtin_function_or_method" [(b "object.__init_subclass__"),(r 70)]
def aQ:Obj:=of "code" [(v "BadName" 258),(v "BadName" 259),(v "/claim/cut.py" 260),(i 36),(i 0),(i 0),(i 0),(i 0),(r 64),(vl false),(i 181),(r 65),vn,vn,vn,vn,(i 261),(i 36),(v "/claim/cut.py" 262)]
def aR:Obj:=ty (cl (S "NameTaken") [(r 57)] [(r 82),(r 57),(w "ValueError"),(w "Exception"),(w "BaseException"),(w "object")] 81 (S "NameTaken") true [] [] false none false) [(k (r 73)),none,(k (v "NameTaken" 272)),(k (v "NameTaken" 280)),(k (b "ValueError.__new__")),(k (vl true))]
def aS:Obj:=fr [(k (r 78)),(k (r 3)),(k (r 75)),none,(k (v "patchkin.errors" 236)),none,(k (r 0))]
def aT:Obj:=of "super" [(r 82),(r 82),(r 82)]
def aU(P:Params):Obj:=dt [(d P "__module__" 279 (v "patchkin.errors" 236)),(d P "__qualname__" 281 (v "NameTaken" 280)),(d P "__firstlineno__" 283 (vi 38 282)),(d P "__static_attributes__" 284 (r 80))] 4
def aV(P:Params):Obj:=dt [(d P "__module__" 295 (v "patchkin.errors" 236)),(d P "__firstlineno__" 299 (vi 40 298)),(d P "__static_attributes__" 300 (r 92)),(d P "__doc__" 301 vn)] 2
def aW:Obj:=of "builtin_function_or_method" [(b "object.__init_subclass__"),(r 82)]
def aX:Obj:=of "code" [(v "NameTaken" 274),(v "NameTaken" 275),(v "/claim/cut.py" 276),(i 38),(i 0),(i 0),(i 0),(i 0),(r 76),(vl false),(i 181),(r 77),vn,vn,vn,vn,(i 277),(i 38),(v "/claim/cut.py" 278)]
def aY:Obj:=ty (cl (S "NoStore") [(r 57)] [(r 94),(r 57),(w "ValueError"),(w "Exception"),(w "BaseException"),(w "object")] 93 (S "NoStore") true [] [] false none false) [(k (r 85)),none,(k (v "NoStore" 288)),(k (v "NoStore" 296)),(k (b "ValueError.__new__")),(k (vl true))]
def aZ:Obj:=of "super" [(r 94),(r 94),(r 94)]
def a0(P:Params):Obj:=dt [(d P "__module__" 295 (v "patchkin.errors" 236)),(d P "__qualname__" 297 (v "NoStore" 296)),(d P "__firstlineno__" 299 (vi 40 298)),(d P "__static_attributes__" 300 (r 92))] 4
def a1:Obj:=fr [(k (r 90)),(k (r 3)),(k (r 87)),none,(k (v "patchkin.errors" 236)),none,(k (r 0))]
def a2(P:Params):Obj:=dt [(d P "__module__" 311 (v "patchkin.errors" 236)),(d P "__firstlineno__" 315 (vi 42 314)),(d P "__static_attributes__" 316 (r 104)),(d P "__doc__" 317 vn)] 2
def a3:Obj:=of "builtin_function_or_method" [(b "object.__init_subclass__"),(r 94)]
def a4:Obj:=ty (cl (S "NoPatch") [(r 57)] [(r 106),(r 57),(w "ValueError"),(w "Exception"),(w "BaseException"),(w "object")] 105 (S "NoPatch") true [] [] false none false) [(k (r 97)),none,(k (v "NoPatch" 304)),(k (v "NoPatch" 312)),(k (b "ValueError.__new__")),(k (vl true))]
def a5:Obj:=of "code" [(v "NoStore" 290),(v "NoStore" 291),(v "/claim/cut.py" 292),(i 40),(i 0),(i 0),(i 0),(i 0),(r 88),(vl false),(i 181),(r 89),vn,vn,vn,vn,(i 293),(i 40),(v "/claim/cut.py" 294)]
def a6:Obj:=fr [(k (r 102)),(k (r 3)),(k (r 99)),none,(k (v "patchkin.errors" 236)),none,(k (r 0))]
def a7(P:Params):Obj:=dt [(d P "__module__" 311 (v "patchkin.errors" 236)),(d P "__qualname__" 313 (v "NoPatch" 312)),(d P "__firstlineno__" 315 (vi 42 314)),(d P "__static_attributes__" 316 (r 104))] 4
def a8:Obj:=of "super" [(r 106),(r 106),(r 106)]
def a9:Obj:=of "builtin_function_or_method" [(b "object.__init_subclass__"),(r 106)]
def ba:Obj:=of "code" [(v "NoPatch" 306),(v "NoPatch" 307),(v "/claim/cut.py" 308),(i 42),(i 0),(i 0),(i 0),(i 0),(r 100),(vl false),(i 181),(r 101),vn,vn,vn,vn,(i 309),(i 42),(v "/claim/cut.py" 310)]
def bb(P:Params):Obj:=dt [(d P "__module__" 327 (v "patchkin.errors" 236)),(d P "__firstlineno__" 331 (vi 44 330)),(d P "__static_attributes__" 332 (r 116)),(d P "__doc__" 333 vn)] 2
def bc:Obj:=ty (cl (S "NoLine") [(r 57)] [(r 118),(r 57),(w "ValueError"),(w "Exception"),(w "BaseException"),(w "object")] 117 (S "NoLine") true [] [] false none false) [(k (r 109)),none,(k (v "NoLine" 320)),(k (v "NoLine" 328)),(k (b "ValueError.__new__")),(k (vl true))]
def bd(P:Params):Obj:=dt [(d P "__module__" 327 (v "patchkin.errors" 236)),(d P "__qualname__" 329 (v "NoLine" 328)),(d P "__firstlineno__" 331 (vi 44 330)),(d P "__static_attributes__" 332 (r 116))] 4
def be:Obj:=of "super" [(r 118),(r 118),(r 118)]
def bf:Obj:=fr [(k (r 114)),(k (r 3)),(k (r 111)),none,(k (v "patchkin.errors" 236)),none,(k (r 0))]
def bg(P:Params):Obj:=dt [(d P "__module__" 343 (v "patchkin.errors" 236)),(d P "__firstlineno__" 347 (vi 46 346)),(d P "__static_attributes__" 348 (r 128)),(d P "__doc__" 349 vn)] 2
def bh:Obj:=of "builtin_function_or_method" [(b "object.__init_subclass__"),(r 118)]
def bi:Obj:=ty (cl (S "Unsettled") [(r 57)] [(r 130),(r 57),(w "ValueError"),(w "Exception"),(w "BaseException"),(w "object")] 129 (S "Unsettled") true [] [] false none false) [(k (r 121)),none,(k (v "Unsettled" 336)),(k (v "Unsettled" 344)),(k (b "ValueError.__new__")),(k (vl true))]
def bj:Obj:=of "code" [(v "NoLine" 322),(v "NoLine" 323),(v "/claim/cut.py" 324),(i 44),(i 0),(i 0),(i 0),(i 0),(r 112),(vl false),(i 181),(r 113),vn,vn,vn,vn,(i 325),(i 44),(v "/claim/cut.py" 326)]
def bk:Obj:=fr [(k (r 126)),(k (r 3)),(k (r 123)),none,(k (v "patchkin.errors" 236)),none,(k (r 0))]
def bl:Obj:=of "super" [(r 130),(r 130),(r 130)]
def bm(P:Params):Obj:=dt [(d P "__module__" 343 (v "patchkin.errors" 236)),(d P "__qualname__" 345 (v "Unsettled" 344)),(d P "__firstlineno__" 347 (vi 46 346)),(d P "__static_attributes__" 348 (r 128))] 4
def bn(P:Params):Obj:=dt [(d P "__module__" 359 (v "patchkin.errors" 236)),(d P "__firstlineno__" 363 (vi 48 362)),(d P "__static_attributes__" 364 (r 140)),(d P "__doc__" 365 vn)] 2
def bo:Obj:=of "builtin_function_or_method" [(b "object.__init_subclass__"),(r 130)]
def bp:Obj:=ty (cl (S "Same") [(r 57)] [(r 142),(r 57),(w "ValueError"),(w "Exception"),(w "BaseException"),(w "object")] 141 (S "Same") true [] [] false none false) [(k (r 133)),none,(k (v "Same" 352)),(k (v "Same" 360)),(k (b "ValueError.__new__")),(k (vl true))]
def bq:Obj:=of "code" [(v "Unsettled" 338),(v "Unsettled" 339),(v "/claim/cut.py" 340),(i 46),(i 0),(i 0),(i 0),(i 0),(r 124),(vl false),(i 181),(r 125),vn,vn,vn,vn,(i 341),(i 46),(v "/claim/cut.py" 342)]
def br:Obj:=of "super" [(r 142),(r 142),(r 142)]
def bs(P:Params):Obj:=dt [(d P "__module__" 359 (v "patchkin.errors" 236)),(d P "__qualname__" 361 (v "Same" 360)),(d P "__firstlineno__" 363 (vi 48 362)),(d P "__static_attributes__" 364 (r 140))] 4
def bt:Obj:=fr [(k (r 138)),(k (r 3)),(k (r 135)),none,(k (v "patchkin.errors" 236)),none,(k (r 0))]
def bu:Obj:=ty (cl (S "PatchError") [(w "ValueError")] [(r 57),(w "ValueError"),(w "Exception"),(w "BaseException"),(w "object")] 56 (S "PatchError") true [] [(r 70),(r 82),(r 94),(r 106),(r 118),(r 130),(r 142),(r 154)] false none false) [(k (r 48)),none,(k (v "PatchError" 238)),(k (v "PatchError" 246)),(k (b "ValueError.__new__")),(k (vl true))]
def bv(P:Params):Obj:=dt [(d P "__module__" 375 (v "patchkin.errors" 236)),(d P "__firstlineno__" 379 (vi 50 378)),(d P "__static_attributes__" 380 (r 152)),(d P "__doc__" 381 vn)] 2
def bw:Obj:=of "builtin_function_or_method" [(b "object.__init_subclass__"),(r 142)]
def bx:Obj:=of "code" [(v "Same" 354),(v "Same" 355),(v "/claim/cut.py" 356),(i 48),(i 0),(i 0),(i 0),(i 0),(r 136),(vl false),(i 181),(r 137),vn,vn,vn,vn,(i 357),(i 48),(v "/claim/cut.py" 358)]
def bz:Obj:=ty (cl (S "Leant") [(r 57)] [(r 154),(r 57),(w "ValueError"),(w "Exception"),(w "BaseException"),(w "object")] 153 (S "Leant") true [] [] false none false) [(k (r 145)),none,(k (v "Leant" 368)),(k (v "Leant" 376)),(k (b "ValueError.__new__")),(k (vl true))]
def bA:Obj:=of "getset_descriptor" [(v "__weakref__" 416),(r 173),(b "ExceptionGroup.__weakref__"),vn]
def bB:Obj:=fr [(k (r 150)),(k (r 3)),(k (r 147)),none,(k (v "patchkin.errors" 236)),none,(k (r 0))]
def bC(P:Params):Obj:=dt [(d P "__module__" 375 (v "patchkin.errors" 236)),(d P "__qualname__" 377 (v "Leant" 376)),(d P "__firstlineno__" 379 (vi 50 378)),(d P "__static_attributes__" 380 (r 152))] 4
def bD:Obj:=tp [(v "lower_name" 409),(v "name" 410),(v "text" 411),(v "upper_name" 412)]
def bE:Obj:=of "super" [(r 154),(r 154),(r 154)]
def bF:Obj:=co "__init__" "Line.__init__" 398 55 5 3 164 181 [165,0,166,167,168] 406
def bG:Obj:=ty (cl (S "Line") [(w "object")] [(r 173),(w "object")] 172 (S "Line") true [] [] false none false) [none,none,(k (v "Line" 386)),(k (v "Line" 394)),(k (b "object.__new__")),(k (vl true))]
def bH(P:Params):Obj:=dt [(d P "__module__" 393 (v "patchkin.order" 384)),(d P "__firstlineno__" 397 (vi 53 396)),(d P "__init__" 408 (r 170)),(d P "__static_attributes__" 413 (r 171)),(d P "__dict__" 415 (r 174)),(d P "__weakref__" 417 (r 175)),(d P "__doc__" 418 vn)] 4
def bI:Obj:=of "builtin_function_or_method" [(b "object.__init_subclass__"),(r 154)]
def bJ:Obj:=fn "__init__" "Line.__init__" (y 17 0) "patchkin.order" 384 169
def bK:Obj:=tp [(v "self" 401),(v "name" 402),(v "text" 403),(v "upper_name" 404),(v "lower_name" 405)]
def bL:Obj:=of "code" [(v "Leant" 370),(v "Leant" 371),(v "/claim/cut.py" 372),(i 50),(i 0),(i 0),(i 0),(i 0),(r 148),(vl false),(i 181),(r 149),vn,vn,vn,vn,(i 373),(i 50),(v "/claim/cut.py" 374)]
def bM:Obj:=of "getset_descriptor" [(v "__dict__" 414),(r 173),(b "function.__dict__"),(b "function.__dict__#set")]
def bN:Obj:=fn "__init__" "Patch.__init__" (y 18 0) "patchkin.order" 384 190
def bO(P:Params):Obj:=dt [(d P "__module__" 393 (v "patchkin.order" 384)),(d P "__qualname__" 395 (v "Line" 394)),(d P "__firstlineno__" 397 (vi 53 396)),(d P "__init__" 408 (r 170)),(d P "__static_attributes__" 413 (r 171))] 5
def bP:Obj:=co "leans_straight_on" "leans_straight_on" 464 74 1 3 204 181 [205,0,0,0,206] 467
def bQ:Obj:=co "files_with_lines" "files_with_lines" 496 101 1 3 228 181 [229,0,0,0,230] 499
def bR:Obj:=fn "live_patches" "live_patches" (x 21) "patchkin.order" 384 214
def bS:Obj:=of "getset_descriptor" [(v "__dict__" 451),(r 194),(b "function.__dict__"),(b "function.__dict__#set")]
def bT:Obj:=fr [(k (r 162)),(k (r 3)),(k (r 159)),none,(k (v "patchkin.order" 384)),none,(k (r 0))]
def bU:Obj:=fn "standing_lines" "standing_lines" (x 23) "patchkin.order" 384 226
noncomputable def bV:Obj:=tp [(v "patches" 473),(v "taken_back" 474),(v "live" 475),(v "patch" 476)]
def bW:Obj:=fn "lines_named_by" "lines_named_by" (x 19) "patchkin.order" 384 202
def bX:Obj:=tp [(v "self" 436),(v "name" 437),(v "file" 438),(v "puts" 439),(v "cuts" 440),(v "other" 441)]
def bY(P:Params):Obj:=dt [(d P "__module__" 428 (v "patchkin.order" 384)),(d P "__firstlineno__" 432 (vi 60 431)),(d P "__init__" 444 (r 191)),(d P "__static_attributes__" 450 (r 192)),(d P "__dict__" 452 (r 195)),(d P "__weakref__" 454 (r 196)),(d P "__doc__" 455 vn)] 4
def bZ:Obj:=l3 [(55,4,169)]
def b0:Obj:=of "builtin_function_or_method" [(b "object.__init_subclass__"),(r 173)]
def b1:Obj:=co "lines_put" "lines_put" 480 88 2 3 216 181 [217,0,218,219,220] 487
def b2:Obj:=tp [(v "cuts" 445),(v "file" 446),(v "name" 447),(v "other" 448),(v "puts" 449)]
def b3:Obj:=fn "leans_straight_on" "leans_straight_on" (x 20) "patchkin.order" 384 207
def b4:Obj:=of "super" [(r 173),(r 173),(r 173)]
def b5:Obj:=fv "__init__" "Line.__init__" (y 17 0)
def b6:Obj:=fn "files_with_lines" "files_with_lines" (x 24) "patchkin.order" 384 231
def b7:Obj:=of "getset_descriptor" [(v "__weakref__" 453),(r 194),(b "ExceptionGroup.__weakref__"),vn]
def b8:Obj:=ty (cl (S "Patch") [(w "object")] [(r 194),(w "object")] 193 (S "Patch") true [] [] false none false) [none,none,(k (v "Patch" 421)),(k (v "Patch" 429)),(k (b "object.__new__")),(k (vl true))]
def b9:Obj:=of "code" [(v "Line" 388),(v "Line" 389),(v "/claim/cut.py" 390),(i 53),(i 0),(i 0),(i 0),(i 0),(r 160),(vl false),(i 181),(r 161),vn,vn,vn,vn,(i 391),(i 53),(v "/claim/cut.py" 392)]
def ca:Obj:=co "standing_lines" "standing_lines" 490 94 2 3 223 181 [224,0,0,0,225] 493
def cb:Obj:=co "lines_named_by" "lines_named_by" 458 68 1 3 199 181 [200,0,0,0,201] 461
def cc:Obj:=tp [(v "patches" 483),(v "file" 484),(v "lines" 485),(v "patch" 486)]
def cd:Obj:=co "live_patches" "live_patches" 470 79 1 3 209 181 [210,0,211,212,213] 477
def ce:Obj:=fn "lines_put" "lines_put" (x 22) "patchkin.order" 384 221
def cf:Obj:=co "__init__" "Patch.__init__" 433 62 6 3 185 181 [186,0,187,188,189] 442
def cg:Obj:=fn "straight_ahead" "straight_ahead" (x 25) "patchkin.order" 384 238
def ch:Obj:=fn "row_of" "row_of" (x 29) "patchkin.order" 384 262
def ci:Obj:=of "code" [(v "Patch" 423),(v "Patch" 424),(v "/claim/cut.py" 425),(i 60),(i 0),(i 0),(i 0),(i 0),(r 181),(vl false),(i 181),(r 182),vn,vn,vn,vn,(i 426),(i 60),(v "/claim/cut.py" 427)]
def cj:Obj:=tp [(v "lines" 505),(v "straight" 506),(v "line" 507)]
def ck:Obj:=fn "all_ahead" "all_ahead" (x 27) "patchkin.order" 384 250
def cm:Obj:=co "first_free" "first_free" 527 136 1 3 252 181 [253,0,254,255,256] 532
def cn:Obj:=fv "standing_lines" "standing_lines" (x 23)
def cp:Obj:=fv "lines_named_by" "lines_named_by" (x 19)
def cq:Obj:=of "super" [(r 194),(r 194),(r 194)]
def cr:Obj:=fv "live_patches" "live_patches" (x 21)
def cs:Obj:=co "joined" "joined" 511 114 2 3 240 181 [241,0,242,243,244] 518
def ct:Obj:=fv "__init__" "Patch.__init__" (y 18 0)
def cu:Obj:=fr [(k (r 183)),(k (r 3)),(k (r 180)),none,(k (v "patchkin.order" 384)),none,(k (r 0))]
def cv(P:Params):Obj:=dt [(d P "__module__" 428 (v "patchkin.order" 384)),(d P "__qualname__" 430 (v "Patch" 429)),(d P "__firstlineno__" 432 (vi 60 431)),(d P "__init__" 444 (r 191)),(d P "__static_attributes__" 450 (r 192))] 5
def cw:Obj:=fv "lines_put" "lines_put" (x 22)
def cx:Obj:=fn "first_free" "first_free" (x 28) "patchkin.order" 384 257
noncomputable def cy:Obj:=tp [(v "names" 514),(v "ahead" 515),(v "found" 516),(v "name" 517)]
def cz:Obj:=co "all_ahead" "all_ahead" 521 120 1 3 247 181 [248,0,0,0,249] 524
def cA:Obj:=co "row_of" "row_of" 535 141 2 3 259 181 [260,0,0,0,261] 538
def cB:Obj:=of "builtin_function_or_method" [(b "object.__init_subclass__"),(r 194)]
def cC:Obj:=fv "files_with_lines" "files_with_lines" (x 24)
def cD:Obj:=l3 [(62,4,190)]
def cE:Obj:=fn "joined" "joined" (x 26) "patchkin.order" 384 245
def cF:Obj:=fv "leans_straight_on" "leans_straight_on" (x 20)
def cG:Obj:=co "straight_ahead" "straight_ahead" 502 104 1 3 233 181 [234,0,235,236,237] 508
def cH:Obj:=tp [(v "waiting" 530),(v "name" 531)]
def cI:Obj:=tp [(v "self" 574),(v "pairs" 575),(v "first" 576),(v "second" 577)]
def cJ:Obj:=fn "quarrelling" "Sight.quarrelling" (y 30 2) "patchkin.order" 384 290
def cK(P:Params):Obj:=dt [(d P "__module__" 548 (v "patchkin.order" 384)),(d P "__firstlineno__" 552 (vi 156 551)),(d P "__init__" 561 (r 277)),(d P "is_ahead" 570 (r 284)),(d P "quarrelling" 580 (r 291)),(d P "most_from" 587 (r 298)),(d P "staying" 594 (r 305)),(d P "__static_attributes__" 597 (r 306)),(d P "__dict__" 599 (r 309)),(d P "__weakref__" 601 (r 310)),(d P "__doc__" 602 vn)] 4
def cL:Obj:=co "is_ahead" "Sight.is_ahead" 562 162 3 3 278 181 [279,0,280,281,282] 568
def cM:Obj:=tp [(v "self" 556),(v "patches" 557),(v "file" 558)]
def cN:Obj:=fn "staying" "Sight.staying" (y 30 4) "patchkin.order" 384 304
def cO:Obj:=co "most_from" "Sight.most_from" 581 173 1 3 292 181 [293,0,294,295,296] 585
def cP:Obj:=fv "all_ahead" "all_ahead" (x 27)
def cQ:Obj:=fv "row_of" "row_of" (x 29)
def cR:Obj:=fn "__init__" "Sight.__init__" (y 30 0) "patchkin.order" 384 276
def cS:Obj:=of "getset_descriptor" [(v "__dict__" 598),(r 308),(b "function.__dict__"),(b "function.__dict__#set")]
def cT:Obj:=tp [(v "self" 591)]
def cU:Obj:=fv "straight_ahead" "straight_ahead" (x 25)
def cV:Obj:=fv "first_free" "first_free" (x 28)
def cW:Obj:=co "staying" "Sight.staying" 588 176 1 3 299 181 [300,0,301,302,303] 592
def cX:Obj:=tp [(v "self" 565),(v "first" 566),(v "second" 567)]
def cY:Obj:=co "__init__" "Sight.__init__" 553 158 3 3 271 181 [272,0,273,274,275] 559
def cZ:Obj:=ty (cl (S "Sight") [(w "object")] [(r 308),(w "object")] 307 (S "Sight") true [] [] false none false) [none,none,(k (v "Sight" 541)),(k (v "Sight" 549)),(k (b "object.__new__")),(k (vl true))]
def c0:Obj:=fv "joined" "joined" (x 26)
def c1:Obj:=fn "is_ahead" "Sight.is_ahead" (y 30 1) "patchkin.order" 384 283
def c2:Obj:=co "quarrelling" "Sight.quarrelling" 571 165 1 3 285 181 [286,0,287,288,289] 578
def c3:Obj:=tp [(v "ahead" 595),(v "lines" 596)]
def c4:Obj:=fn "most_from" "Sight.most_from" (y 30 3) "patchkin.order" 384 297
def c5:Obj:=tp [(v "self" 584)]
def c6:Obj:=of "getset_descriptor" [(v "__weakref__" 600),(r 308),(b "ExceptionGroup.__weakref__"),vn]
def c7:Obj:=fn "check_name" "check_name" (x 34) "patchkin.desk" 605 318
def c8:Obj:=fv "staying" "Sight.staying" (y 30 4)
def c9:Obj:=of "super" [(r 308),(r 308),(r 308)]
def da:Obj:=fv "__init__" "Sight.__init__" (y 30 0)
def db:Obj:=co "new_lines" "new_lines" 639 198 3 3 334 181 [335,0,336,337,338] 650
def dc:Obj:=tp [(v "name" 614),(v "sign" 615)]
def df:Obj:=fv "quarrelling" "Sight.quarrelling" (y 30 2)
def dg:Obj:=tp [(v "kept_names" 632),(v "size" 633),(v "behind" 634),(v "place" 635)]
def dh:Obj:=fn "changing_patch" "changing_patch" (x 38) "patchkin.desk" 605 344
def di:Obj:=co "check_places" "check_places" 619 187 2 3 320 181 [321,0,322,323,324] 626
def dj:Obj:=of "code" [(v "Sight" 543),(v "Sight" 544),(v "/claim/cut.py" 545),(i 156),(i 0),(i 0),(i 0),(i 0),(r 267),(vl false),(i 181),(r 268),vn,vn,vn,vn,(i 546),(i 156),(v "/claim/cut.py" 547)]
def dk:Obj:=fn "kept_behind" "kept_behind" (x 36) "patchkin.desk" 605 332
def dl:Obj:=tp [(v "patch" 642),(v "texts" 643),(v "kept_names" 644),(v "behind" 645),(v "lines" 646),(v "upper_name" 647),(v "place" 648),(v "text" 649)]
def dm:Obj:=fv "most_from" "Sight.most_from" (y 30 3)
def dn:Obj:=co "changing_patch" "changing_patch" 653 209 4 3 341 181 [342,0,0,0,343] 656
def dp:Obj:=of "builtin_function_or_method" [(b "object.__init_subclass__"),(r 308)]
def dq:Obj:=fn "new_lines" "new_lines" (x 37) "patchkin.desk" 605 339
def dr:Obj:=l3 [(158,4,276),(162,4,283),(165,4,290),(173,4,297),(176,4,304)]
def ds:Obj:=co "kept_behind" "kept_behind" 629 193 2 3 327 181 [328,0,329,330,331] 636
def du:Obj:=tp [(v "places" 622),(v "size" 623),(v "least" 624),(v "place" 625)]
def dv(P:Params):Obj:=dt [(d P "__module__" 548 (v "patchkin.order" 384)),(d P "__qualname__" 550 (v "Sight" 549)),(d P "__firstlineno__" 552 (vi 156 551)),(d P "__init__" 561 (r 277)),(d P "is_ahead" 570 (r 284)),(d P "quarrelling" 580 (r 291)),(d P "most_from" 587 (r 298)),(d P "staying" 594 (r 305)),(d P "__static_attributes__" 597 (r 306))] 9
def dw:Obj:=fv "is_ahead" "Sight.is_ahead" (y 30 1)
def dx:Obj:=fn "check_places" "check_places" (x 35) "patchkin.desk" 605 325
def dy:Obj:=fr [(k (r 269)),(k (r 3)),(k (r 266)),none,(k (v "patchkin.order" 384)),none,(k (r 0))]
def dz:Obj:=co "check_name" "check_name" 611 181 1 3 313 181 [314,0,315,316,317] 616
def dA:Obj:=fn "__init__" "Desk.__init__" (y 39 0) "patchkin.desk" 605 358
noncomputable def dB:Obj:=fn "take" "Desk.take" (y 39 8) "patchkin.desk" 605 406
def dC:Obj:=fv "changing_patch" "changing_patch" (x 38)
noncomputable def dD:Obj:=fn "leans" "Desk.leans" (y 39 10) "patchkin.desk" 605 418
def dE:Obj:=tp [(v "self" 674)]
def dF:Obj:=fn "cut" "Desk.cut" (y 39 6) "patchkin.desk" 605 394
def dG:Obj:=fv "kept_behind" "kept_behind" (x 36)
def dH:Obj:=co "patches" "Desk.patches" 693 233 1 3 374 181 [375,0,376,377,378] 697
noncomputable def dI:Obj:=fn "has" "Desk.has" (y 39 4) "patchkin.desk" 605 384
def dJ:Obj:=co "back" "Desk.back" 718 259 4 3 396 181 [397,0,398,399,400] 725
def dK:Obj:=tp [(v "self" 689)]
def dL:Obj:=co "told" "Desk.told" 750 287 2 3 420 181 [421,0,422,423,424] 755
def dM:Obj:=co "record" "Desk.record" 706 240 5 3 386 181 [387,0,0,0,388] 709
def dN:Obj:=fn "stores" "Desk.stores" (y 39 2) "patchkin.desk" 605 372
noncomputable def dO:Obj:=co "begin" "Desk.begin" 678 224 2 3 360 181 [361,0,362,363,364] 683
noncomputable def dP:Obj:=co "drop" "Desk.drop" 734 275 3 3 408 181 [409,0,410,411,412] 741
def dQ:Obj:=fv "check_name" "check_name" (x 34)
noncomputable def dR:Obj:=co "has" "Desk.has" 700 236 2 3 381 181 [382,0,0,0,383] 703
def dS:Obj:=tp [(v "self" 696)]
def dT:Obj:=fv "check_places" "check_places" (x 35)
def dU:Obj:=co "stores" "Desk.stores" 686 230 1 3 367 181 [368,0,369,370,371] 690
def dV:Obj:=fn "patches" "Desk.patches" (y 39 3) "patchkin.desk" 605 379
noncomputable def dW:Obj:=co "leans" "Desk.leans" 744 283 2 3 415 181 [416,0,0,0,417] 747
def dX:Obj:=fn "back" "Desk.back" (y 39 7) "patchkin.desk" 605 401
def dY:Obj:=fv "new_lines" "new_lines" (x 37)
def dZ:Obj:=co "cut" "Desk.cut" 712 250 5 3 391 181 [392,0,0,0,393] 715
def d0:Obj:=tp [(v "self" 681),(v "store" 682)]
def d1:Obj:=tp [(v "self" 737),(v "store" 738),(v "patch" 739),(v "name" 740)]
def d2:Obj:=fn "record" "Desk.record" (y 39 5) "patchkin.desk" 605 389
def d3:Obj:=tp [(v "self" 753),(v "patch" 754)]
def d4:Obj:=co "__init__" "Desk.__init__" 671 219 1 3 353 181 [354,0,355,356,357] 675
noncomputable def d5:Obj:=co "take" "Desk.take" 728 265 4 3 403 181 [404,0,0,0,405] 731
def d6:Obj:=tp [(v "self" 721),(v "store" 722),(v "patch" 723),(v "other" 724)]
noncomputable def d7:Obj:=fn "begin" "Desk.begin" (y 39 1) "patchkin.desk" 605 365
noncomputable def d8:Obj:=fn "drop" "Desk.drop" (y 39 9) "patchkin.desk" 605 413
noncomputable def d9:Obj:=fv "has" "Desk.has" (y 39 4)
def ea:Obj:=of "code" [(v "Desk" 661),(v "Desk" 662),(v "/claim/cut.py" 663),(i 217),(i 0),(i 0),(i 0),(i 0),(r 349),(vl false),(i 181),(r 350),vn,vn,vn,vn,(i 664),(i 217),(v "/claim/cut.py" 665)]
def eb:Obj:=fv "stores" "Desk.stores" (y 39 2)
noncomputable def ec:Obj:=fv "leans" "Desk.leans" (y 39 10)
def ed:Obj:=fv "cut" "Desk.cut" (y 39 6)
def ee:Obj:=fv "__init__" "Desk.__init__" (y 39 0)
noncomputable def ef:Obj:=fv "take" "Desk.take" (y 39 8)
def eg:Obj:=fr [(k (r 351)),(k (r 3)),(k (r 348)),none,(k (v "patchkin.desk" 605)),none,(k (r 0))]
def eh:Obj:=fv "back" "Desk.back" (y 39 7)
def ei:Obj:=fv "told" "Desk.told" (y 39 11)
def ej:Obj:=fv "record" "Desk.record" (y 39 5)
noncomputable def ek:Obj:=fv "begin" "Desk.begin" (y 39 1)
noncomputable def el:Obj:=fv "drop" "Desk.drop" (y 39 9)
def em:Obj:=fv "patches" "Desk.patches" (y 39 3)
def en:Obj:=co "sight_of" "Desk.sight_of" 796 305 3 3 458 181 [459,0,460,461,462] 802
def eo:Obj:=tp [(v "self" 843),(v "store" 844),(v "patch" 845),(v "needs" 846),(v "name" 847)]
def ep:Obj:=fn "check_store" "Desk.check_store" (y 39 18) "patchkin.desk" 605 470
def eq:Obj:=of "getset_descriptor" [(v "__dict__" 855),(r 502),(b "function.__dict__"),(b "function.__dict__#set")]
def er:Obj:=co "stay" "Desk.stay" 781 299 3 3 446 181 [447,0,448,449,450] 787
def es:Obj:=tp [(v "self" 808),(v "store" 809)]
noncomputable def et:Obj:=fn "keep" "Desk.keep" (y 39 22) "patchkin.desk" 605 498
def eu:Obj:=co "check_new" "Desk.check_new" 830 320 3 3 486 181 [487,0,488,489,490] 837
def ev:Obj:=tp [(v "self" 824),(v "store" 825),(v "patch" 826)]
def ew:Obj:=fn "files" "Desk.files" (y 39 12) "patchkin.desk" 605 432
def ex:Obj:=fn "patches_of" "Desk.patches_of" (y 39 16) "patchkin.desk" 605 456
def ey:Obj:=tp [(v "self" 775),(v "store" 776),(v "file" 777)]
def ez:Obj:=fn "check_held" "Desk.check_held" (y 39 20) "patchkin.desk" 605 484
def eA:Obj:=co "row" "Desk.row" 766 293 3 3 434 181 [435,0,0,0,436] 769
noncomputable def eB(P:Params):Obj:=dt [(d P "__module__" 666 (v "patchkin.desk" 605)),(d P "__firstlineno__" 670 (vi 217 669)),(d P "__init__" 677 (r 359)),(d P "begin" 685 (r 366)),(d P "stores" 692 (r 373)),(d P "patches" 699 (r 380)),(d P "has" 705 (r 385)),(d P "record" 711 (r 390)),(d P "cut" 717 (r 395)),(d P "back" 727 (r 402)),(d P "take" 733 (r 407)),(d P "drop" 743 (r 414)),(d P "leans" 749 (r 419)),(d P "told" 757 (r 426)),(d P "files" 765 (r 433)),(d P "row" 771 (r 438)),(d P "quarrels" 780 (r 445)),(d P "stay" 789 (r 452)),(d P "patches_of" 795 (r 457)),(d P "sight_of" 804 (r 464)),(d P "check_store" 812 (r 471)),(d P "check_made" 820 (r 478)),(d P "check_held" 829 (r 485)),(d P "check_new" 839 (r 492)),(d P "keep" 850 (r 499)),(d P "__static_attributes__" 854 (r 500)),(d P "__dict__" 856 (r 503)),(d P "__weakref__" 858 (r 504)),(d P "__doc__" 859 vn)] 4
def eC:Obj:=tp [(v "self" 761),(v "store" 762)]
def eD:Obj:=co "check_made" "Desk.check_made" 813 312 2 3 472 181 [473,0,474,475,476] 818
def eE:Obj:=fn "quarrels" "Desk.quarrels" (y 39 14) "patchkin.desk" 605 444
def eF:Obj:=tp [(v "self" 784),(v "store" 785),(v "file" 786)]
def eG:Obj:=fn "sight_of" "Desk.sight_of" (y 39 17) "patchkin.desk" 605 463
def eH:Obj:=co "files" "Desk.files" 758 290 2 3 427 181 [428,0,429,430,431] 763
def eI:Obj:=co "patches_of" "Desk.patches_of" 790 302 2 3 453 181 [454,0,0,0,455] 793
def eJ:Obj:=tp [(v "self" 833),(v "patch" 834),(v "files" 835),(v "name" 836)]
def eK:Obj:=of "getset_descriptor" [(v "__weakref__" 857),(r 502),(b "ExceptionGroup.__weakref__"),vn]
def eL:Obj:=fn "stay" "Desk.stay" (y 39 15) "patchkin.desk" 605 451
def eM:Obj:=co "check_held" "Desk.check_held" 821 316 3 3 479 181 [480,0,481,482,483] 827
def eN:Obj:=tp [(v "held" 851),(v "made" 852),(v "needs" 853)]
def eO:Obj:=tp [(v "self" 799),(v "store" 800),(v "file" 801)]
def eP:Obj:=fn "check_new" "Desk.check_new" (y 39 21) "patchkin.desk" 605 491
def eQ:Obj:=co "quarrels" "Desk.quarrels" 772 296 3 3 439 181 [440,0,441,442,443] 778
noncomputable def eR:Obj:=co "keep" "Desk.keep" 840 326 3 3 493 181 [494,0,495,496,497] 848
def eS:Obj:=fn "told" "Desk.told" (y 39 11) "patchkin.desk" 605 425
def eT:Obj:=tp [(v "self" 816),(v "patch" 817)]
def eU:Obj:=co "check_store" "Desk.check_store" 805 308 2 3 465 181 [466,0,467,468,469] 810
def eV:Obj:=fn "row" "Desk.row" (y 39 13) "patchkin.desk" 605 437
def eW:Obj:=ty (cl (S "Desk") [(w "object")] [(r 502),(w "object")] 501 (S "Desk") true [] [] false none false) [none,none,(k (v "Desk" 659)),(k (v "Desk" 667)),(k (b "object.__new__")),(k (vl true))]
def eX:Obj:=fn "check_made" "Desk.check_made" (y 39 19) "patchkin.desk" 605 477
def eY:Obj:=co "_law_deed" "_law_deed" 916 379 6 3 540 181 [541,0,0,0,542] 919
def eZ:Obj:=fn "_law_name" "_law_name" (x 43) "law_patchkin_k09_whole_any_order" 862 526
def e0:Obj:=tp [(v "row" 938),(v "line" 939)]
def e1:Obj:=fv "files" "Desk.files" (y 39 12)
def e2:Obj:=co "_law_draw" "_law_draw" 872 339 3 3 514 181 [515,0,516,517,518] 879
def e3:Obj:=fv "patches_of" "Desk.patches_of" (y 39 16)
def e4:Obj:=tp [(v "texts" 905),(v "cell" 906),(v "at" 907),(v "line" 908),(v "more" 909),(v "way" 910),(v "out" 911),(v "turned" 912)]
def e5:Obj:=fv "check_held" "Desk.check_held" (y 39 20)
def e6:Obj:=co "_law_text" "_law_text" 896 355 1 3 528 181 [529,0,0,0,530] 899
def e7:Obj:=fn "_law_row_form" "_law_row_form" (x 49) "law_patchkin_k09_whole_any_order" 862 562
def e8:Obj:=tp [(v "cell" 885),(v "k" 886),(v "signs" 887),(v "size" 888),(v "base" 889),(v "far" 890),(v "found" 891),(v "j" 892)]
def e9:Obj:=co "_law_whole" "_law_whole" 928 410 1 3 550 181 [551,0,552,553,554] 932
def fa:Obj:=fn "_law_edit" "_law_edit" (x 45) "law_patchkin_k09_whole_any_order" 862 538
def fb:Obj:=fv "quarrels" "Desk.quarrels" (y 39 14)
def fc:Obj:=fn "_law_cell_at" "_law_cell_at" (x 41) "law_patchkin_k09_whole_any_order" 862 512
def fe:Obj:=fn "_law_names_are" "_law_names_are" (x 51) "law_patchkin_k09_whole_any_order" 862 576
noncomputable def ff:Obj:=fv "keep" "Desk.keep" (y 39 22)
def fg:Obj:=co "_law_pairs_form" "_law_pairs_form" 943 421 1 3 564 181 [565,0,566,567,568] 948
def fh:Obj:=of "super" [(r 502),(r 502),(r 502)]
def fi:Obj:=co "_law_seen" "_law_seen" 960 435 3 3 578 181 [579,0,0,0,580] 963
def fj:Obj:=fn "_law_desk" "_law_desk" (x 47) "law_patchkin_k09_whole_any_order" 862 548
def fk:Obj:=fv "check_store" "Desk.check_store" (y 39 18)
def fm:Obj:=tp [(v "found" 954),(v "due" 955),(v "name" 956)]
def fo:Obj:=tp [(v "script" 867),(v "k" 868)]
def fp:Obj:=co "_law_cell_at" "_law_cell_at" 864 335 2 3 507 181 [508,0,509,510,511] 869
def fq:Obj:=co "_law_names_are" "_law_names_are" 951 428 2 3 571 181 [572,0,573,574,575] 957
def fs:Obj:=fn "_law_deed" "_law_deed" (x 46) "law_patchkin_k09_whole_any_order" 862 543
def ft:Obj:=fn "_law_draw" "_law_draw" (x 42) "law_patchkin_k09_whole_any_order" 862 519
def fu:Obj:=tp [(v "found" 931)]
def fw:Obj:=tp [(v "cell" 875),(v "k" 876),(v "bound" 877),(v "stir" 878)]
def fx:Obj:=co "_law_desk" "_law_desk" 922 398 4 3 545 181 [546,0,0,0,547] 925
def fy:Obj:=fn "_law_text" "_law_text" (x 44) "law_patchkin_k09_whole_any_order" 862 531
def fz:Obj:=fv "row" "Desk.row" (y 39 13)
def fA:Obj:=fn "_law_whole" "_law_whole" (x 48) "law_patchkin_k09_whole_any_order" 862 555
noncomputable def fB(P:Params):Obj:=dt [(d P "__module__" 666 (v "patchkin.desk" 605)),(d P "__qualname__" 668 (v "Desk" 667)),(d P "__firstlineno__" 670 (vi 217 669)),(d P "__init__" 677 (r 359)),(d P "begin" 685 (r 366)),(d P "stores" 692 (r 373)),(d P "patches" 699 (r 380)),(d P "has" 705 (r 385)),(d P "record" 711 (r 390)),(d P "cut" 717 (r 395)),(d P "back" 727 (r 402)),(d P "take" 733 (r 407)),(d P "drop" 743 (r 414)),(d P "leans" 749 (r 419)),(d P "told" 757 (r 426)),(d P "files" 765 (r 433)),(d P "row" 771 (r 438)),(d P "quarrels" 780 (r 445)),(d P "stay" 789 (r 452)),(d P "patches_of" 795 (r 457)),(d P "sight_of" 804 (r 464)),(d P "check_store" 812 (r 471)),(d P "check_made" 820 (r 478)),(d P "check_held" 829 (r 485)),(d P "check_new" 839 (r 492)),(d P "keep" 850 (r 499)),(d P "__static_attributes__" 854 (r 500))] 27
def fC:Obj:=fv "check_made" "Desk.check_made" (y 39 19)
def fD:Obj:=fv "stay" "Desk.stay" (y 39 15)
def fE:Obj:=co "_law_row_form" "_law_row_form" 935 412 1 3 557 181 [558,0,559,560,561] 940
def fF:Obj:=fv "check_new" "Desk.check_new" (y 39 21)
def fG:Obj:=co "_law_edit" "_law_edit" 902 363 2 3 533 181 [534,0,535,536,537] 913
def fH:Obj:=fn "_law_pairs_form" "_law_pairs_form" (x 50) "law_patchkin_k09_whole_any_order" 862 569
def fI:Obj:=of "builtin_function_or_method" [(b "object.__init_subclass__"),(r 502)]
def fJ:Obj:=fn "_law_seen" "_law_seen" (x 52) "law_patchkin_k09_whole_any_order" 862 581
def fK:Obj:=tp [(v "found" 946),(v "pair" 947)]
def fL:Obj:=co "_law_name" "_law_name" 882 343 2 3 521 181 [522,0,523,524,525] 893
def fM:Obj:=fv "sight_of" "Desk.sight_of" (y 39 17)
def fN:Obj:=l3 [(219,4,358),(224,4,365),(230,4,372),(233,4,379),(236,4,384),(240,4,389),(250,4,394),(259,4,401),(265,4,406),(275,4,413),(283,4,418),(287,4,425),(290,4,432),(293,4,437),(296,4,444),(299,4,451),(302,4,456),(305,4,463),(308,4,470),(312,4,477),(316,4,484),(320,4,491),(326,4,498)]
def fO(P:Params):Obj:=dt ((d P "__name__" 165 (v "law_patchkin_k09_whole_any_order" 862))::h4 P) 60
def fP:Obj:=fv "_law_cell_at" "_law_cell_at" (x 41)
def fQ:Obj:=fv "_law_names_are" "_law_names_are" (x 51)
def fR:Obj:=fv "_law_desk" "_law_desk" (x 47)
def fS:Obj:=co "_law_takes_all" "_law_takes_all" 978 448 4 3 590 181 [591,0,592,593,594] 987
def fT:Obj:=fv "_law_row_form" "_law_row_form" (x 49)
noncomputable def fU:Obj:=tp [(v "names" 969),(v "cell" 970),(v "left" 971),(v "found" 972),(v "k" 973),(v "at" 974)]
def fV:Obj:=fv "_law_edit" "_law_edit" (x 45)
def fW:Obj:=fn "law" "law" (x 55) "law_patchkin_k09_whole_any_order" 862 600
def fX:Obj:=fv "_law_name" "_law_name" (x 43)
def fY:Obj:=fn "_law_mixed" "_law_mixed" (x 53) "law_patchkin_k09_whole_any_order" 862 588
def fZ:Obj:=tp [(v "desk" 981),(v "store" 982),(v "sources" 983),(v "order" 984),(v "name" 985),(v "source" 986)]
def f0:Obj:=co "law" "law" 990 453 1 3 597 181 [598,0,0,0,599] 993
def f1:Obj:=fv "_law_pairs_form" "_law_pairs_form" (x 50)
def f2:Obj:=fv "_law_seen" "_law_seen" (x 52)
def f3:Obj:=fn "_law_takes_all" "_law_takes_all" (x 54) "law_patchkin_k09_whole_any_order" 862 595
def f4:Obj:=co "_law_mixed" "_law_mixed" 966 437 2 3 583 181 [584,0,585,586,587] 975
def f5:Obj:=fv "_law_text" "_law_text" (x 44)
def f6:Obj:=fv "_law_whole" "_law_whole" (x 48)
def f7:Obj:=fv "_law_draw" "_law_draw" (x 42)
def f8:Obj:=fv "_law_deed" "_law_deed" (x 46)
def f9(P:Params):Obj:=dt ((d P "__name__" 165 (v "patchkin.desk" 605))::h1 P) 44
def ga:Obj:=l3 [(1,0,20),(5,0,27),(13,0,32),(18,0,39),(23,0,46),(34,0,53),(36,0,66),(38,0,78),(40,0,90),(42,0,102),(44,0,114),(46,0,126),(48,0,138),(50,0,150),(53,0,162),(60,0,183),(68,0,202),(74,0,207),(79,0,214),(88,0,221),(94,0,226),(101,0,231),(104,0,238),(114,0,245),(120,0,250),(136,0,257),(141,0,262),(156,0,269),(181,0,318),(187,0,325),(193,0,332),(198,0,339),(209,0,344),(217,0,351)]
def gc:Obj:=fv "_law_mixed" "_law_mixed" (x 53)
def gd:Obj:=l3 [(1,0,20),(5,0,27),(13,0,32),(18,0,39),(23,0,46),(34,0,53),(36,0,66),(38,0,78),(40,0,90),(42,0,102),(44,0,114),(46,0,126),(48,0,138),(50,0,150),(53,0,162),(60,0,183),(68,0,202),(74,0,207),(79,0,214),(88,0,221),(94,0,226),(101,0,231),(104,0,238),(114,0,245),(120,0,250),(136,0,257),(141,0,262),(156,0,269),(181,0,318),(187,0,325),(193,0,332),(198,0,339),(209,0,344),(217,0,351),(335,0,512),(339,0,519),(343,0,526),(355,0,531),(363,0,538),(379,0,543),(398,0,548),(410,0,555),(412,0,562),(421,0,569),(428,0,576),(435,0,581),(437,0,588),(448,0,595),(453,0,600)]
def ge:Obj:=fv "_law_takes_all" "_law_takes_all" (x 54)
def gf(P:Params):Obj:=dt ((d P "__name__" 165 (v "patchkin.errors" 236))::hS P) 19
def gk(P:Params):Obj:=dt ((d P "__name__" 165 (v "patchkin.order" 384))::hY P) 31
def gm(P:Params):Obj:=dt ((d P "__name__" 165 (v "patchkin.errors" 236))::hU P) 21
def gq(P:Params):Obj:=dt ((d P "__name__" 165 (v "patchkin.order" 384))::hX P) 24
def gs(P:Params):Obj:=dt ((d P "__name__" 165 (v "patchkin.desk" 605))::h2 P) 45
def gt(P:Params):Obj:=dt ((d P "__name__" 165 (v "law_patchkin_k09_whole_any_order" 862))::h3 P) 57
def gv(P:Params):Obj:=dt ((d P "__name__" 165 (v "patchkin.errors" 236))::hV P) 22
def gy(P:Params):Obj:=dt ((d P "__name__" 165 (v "patchkin.errors" 236))::hQ P) 17
def gB(P:Params):Obj:=dt ((d P "__name__" 165 (v "patchkin.desk" 605))::h0 P) 39
def gD(P:Params):Obj:=dt ((d P "__name__" 165 (v "patchkin.errors" 236))::hT P) 20
def gG(P:Params):Obj:=dt ((d P "__name__" 165 (v "patchkin.order" 384))::hW P) 23
def gI(P:Params):Obj:=dt ((d P "__name__" 165 (v "patchkin.errors" 236))::hP P) 16
def gL(P:Params):Obj:=dt ((d P "__name__" 165 (v "patchkin.order" 384))::hZ P) 36
def gN(P:Params):Obj:=dt ((d P "__name__" 165 (v "patchkin.errors" 236))::hO P) 15
def gQ(P:Params):Obj:=dt ((d P "__name__" 165 (v "patchkin.errors" 236))::hR P) 18
def gT:BT:=n ab (n an (f aa) (f a3)) (n ao (f aa) z)
def gU:BT:=n aw (n aa (f aa) (f a9)) (n aF (f aa) z)
def gV:BT:=n aH (n ab (f ac) (f a4)) (n ax (f a5) z)
def gW:BT:=n ab (n ay (f aX) z) (n ac (f aY) z)
def gX:BT:=n aa (f aa) z
def gY:BT:=n aa (f aa) (f aa)
def gZ:BT:=n aa (f ab) z
def g0:BT:=n ab (f ab) (f ab)
def g1:BT:=n aa (f aa) (f ab)
def g2:BT:=n ab (f ab) z
def g3:BT:=n aq (n aP (f aa) (f ab)) (n aa (f b5) (f b6))
def g4(P:Params):BT:=n az (n (aL P) (n bk (n aa (f fP) z) (f d9)) (n bN (n c7 (f fQ) z) (f ab))) (n aZ (n (bO P) (n cI (f eY) z) (f aa)) (n aa (f ea) (f aa)))
def g5(P:Params):BT:=n (bd P) (n bA (n c8 (f e0) z) (f e1)) (n cg (f aa) (f eo))
def g6:BT:=n a6 (n aa gZ (f aa)) (n bQ (f dA) (f ab))
def g7:BT:=n be (n ci (n c9 (f aa) z) (f aa)) (n aa (f ab) (f eq))
def g8(P:Params):BT:=n ab (n aN (n bl gZ (f ab)) (n bS gZ (f er))) (n (a7 P) (n bT (n cJ (f fR) z) (f dD)) (n bU (f dE) (f e5)))
def g9(P:Params):BT:=n bf (n ac (n (cK P) (f e7) z) (f ab)) (n aa (f eb) (f et))
def ha:BT:=n a8 (n bD (n aa (f e9) z) (f aa)) (n cj (f aa) (f eu))
def hb(P:Params):BT:=n aB (n a1 (n bE (n cL (f fa) z) (f aa)) (n aa (f ac) (f aa))) (n (bm P) (n bX (n dc (f aa) z) (f fb)) (n ck (f dH) (f aa)))
def hc(P:Params):BT:=n al (n ab (n (bg P) (n cm (f fc) z) (f dI)) (n (bY P) (n ab (f fe) z) (f aa))) (n ad (n bZ (n df (f aa) z) (f ec)) (n cn (f aa) (f ev)))
def hd:BT:=n aa gX (f aa)
def he:BT:=n ab (n b0 (n cN (f fT) z) (f ew)) (n ab (f dK) (f ff))
def hf:BT:=n aa (f ab) (f aa)
def hg:BT:=n ad (n aa (n aa (f fg) z) (f ey)) (n cP (f aa) (f fh))
def hh(P:Params):BT:=n aa (n (aC P) (n ad (n cQ (f aa) z) (f dM)) (n cq (n di (f fi) z) (f aa))) (n ab (n ab (n ab (f fj) z) (f ab)) (n ab (f ee) (f ez)))
def hi(P:Params):BT:=n (bb P) (n aa (n cS (f ab) z) (f eA)) (n cs (f dN) (f (eB P)))
def hj:BT:=n ad (n bG (n cT (f aa) z) (f eC)) (n cU (f dO) (f aa))
def hk(P:Params):BT:=n ad (n (aV P) (n aa gZ (f dP)) (n b1 (f aa) (f eD))) (n ab (n ct (n dQ (f fm) z) (f eE)) (n ab (f aa) (f fo)))
def hl:BT:=n an (n aa (n aa (n cV (f fp) z) (f dR)) (n b2 (n aa (f fq) z) (f eF))) (n a3 (n aa (n aa (f fs) z) (f ab)) (n ab (f eg) (f ab)))
def hm:BT:=n aa (n b4 (n cW (f aa) z) (f eH)) hf
def hn:BT:=n aa (n b5 (n dm (f fu) z) (f ei)) (n b6 (f aa) (f eJ))
def ho:BT:=n bh (n cu (n dp (f f1) z) (f ab)) (n ab (f dS) (f eK))
def hp:BT:=n av (n aa (n bo (n ab (f fw) z) (f ej)) (n b7 (n dT (f f2) z) (f eL))) (n aa (n aa (n aa (f fx) z) (f aa)) (n aa (f aa) (f eM)))
def hq(P:Params):BT:=n aa (n (cv P) (n cZ (f aa) z) (f fz)) (n c0 (f dU) (f eN))
def hr(P:Params):BT:=n a9 (n (bH P) (n ab (f fA) z) (f ab)) (n aa (f ek) (f eP))
def hs(P:Params):BT:=n aF (n aa (n bI (n c1 (f aa) z) (f el)) (n cw (f (fB P)) (f fC))) (n aa (n aa gZ (f eQ)) (n aa (f dV) (f ab)))
def ht:BT:=n aa (n aQ (n bi (n cx (f aa) z) (f aa)) (n b8 (n du (f aa) z) (f fD))) (n ac (n b9 (n c2 (f ab) z) (f dW)) (n ca (f ab) (f aa)))
def hu:BT:=n bj (n aa (n c3 (f fE) z) (f aa)) (n cy (f aa) (f eR))
def hv:BT:=n a4 (n bJ (n c4 (f f6) z) (f eS)) (n ab (f d0) (f fF))
def hw:BT:=n ax (n a5 (n bz (n dw (f fG) z) (f d1)) (n cc (f aa) (f eT))) (n ac (n ab (n ab (f fH) z) (f aa)) (n cz (f em) (f fI)))
def hx:BT:=n aI (n aJ (n ac (n cA (f f7) z) (f d2)) (n cB (n dx (f fJ) z) (f ab))) (n ba (n bK (n c5 (f aa) z) (f d3)) (n cC (f d4) (f aa)))
def hy:BT:=n bc (n cD (n c6 (f fK) z) (f eV)) (n cE (f aa) (f eW))
def hz:BT:=n ac (n bM gZ (f aa)) (n cG (f d7) (f ab))
def hA:BT:=n ac (n aY (n ac (n ab (f f8) z) (f d8)) (n ce (f fN) (f eX))) (n bq (n cf (n dz (f aa) z) (f aa)) (n cH (f ab) (f aa)))
def hB(P:Params):BT:=n aA (n ab (n aN (f bl) z) (f (a7 P))) (n aa (f aT) (f bf))
def hC(P:Params):BT:=n ak (n al (n ab (f (bg P)) z) (f ad)) (n ac (f (aO P)) (f ab))
def hD(P:Params):BT:=n am (n aa (f (aC P)) (f ab)) (n aD (f ad) (f (bb P)))
def hE:BT:=n au (n av (n aa (f bo) z) (f aa)) (n ab (f aW) (f aa))
def hF(P:Params):BT:=n aa (n aa (n aQ (f bi) z) (f ac)) (n (aG P) (f aR) (f bj))
def hG:BT:=n aa (n aI (f aJ) (f ba)) (n aK (f ac) (f bc))
def hH:BT:=n ab (f ac) z
def hI(P:Params):BT:=n aa (n az (n (aL P) (f bk) z) (f aZ)) (n ag (n aS (f br) z) (f (bd P)))
def hJ(P:Params):BT:=n aa (n aE (n ab (f (bn P)) z) (f ad)) (n ad (f (aV P)) (f ab))
def hK:BT:=n ab (n an gX (f a3)) (n ao (n aa (f bw) z) (f aa))
def hL:BT:=n ab (n ay (n aX (f bp) z) (f ac)) (n ac (f aY) (f bq))
def hM:BT:=n aA (n ab (f aN) z) (n aa (f aT) z)
def hN:BT:=n au (n av (f aa) z) (n ab (f aW) z)
end
end TW
namespace PySem.W.Fast
open PySem PySem.W L2 PK TW
noncomputable section
def tw10284079982776969693:Program:=PySem.Challenge.pw_patchkin_k09_whole_any_order
theorem te10284079982776969693:tw10284079982776969693=tw10284079982776969693:=rfl
def tw11941921713403703136:Params→BT:=fun P=>n (boot_o_0 P) (n (boot_o_1 P) (n (gf P) (n (boot_o_7 P) (n aa (n az (f (aL P)) (f aZ)) (n ag (f aS) z)) (n ab (n ah (f aM) (f a6)) (n aa (f (a0 P)) z))) (n aa (n aA (n ab (f aN) (f (a7 P))) (n aa (f aT) z)) (n ai (n aj (f (aU P)) (f a8)) (n aB (f a1) z)))) (n (boot_o_5 P) (n (boot_o_9 P) (n ak (n al (f ab) (f ad)) (n ac (f (aO P)) z)) (n aa (n aa (f ad) (f (a2 P))) (n (ty (cl (S "PatchError") [(w "ValueError")] [(r 57),(w "ValueError"),(w "Exception"),(w "BaseException"),(w "object")] 56 (S "PatchError") true [] [(r 70),(r 82),(r 94),(r 106)] false none false) [(k (r 48)),none,(k (v "PatchError" 238)),(k (v "PatchError" 246)),(k (b "ValueError.__new__")),(k (vl true))]) (f ab) z))) (n ae (n am (n aa (f (aC P)) (f ab)) (n aD (f ad) z)) (n aa (n aE (f ab) z) (n ad (f (aV P)) z))))) (n (boot_o_2 P) (n (boot_o_4 P) (n (boot_o_8 P) gT (n ap (n aq (f aP) (f aa)) (n (ar P) (f aa) z))) (n (l3 [(1,0,20),(5,0,27),(13,0,32),(18,0,39),(23,0,46),(34,0,53),(36,0,66),(38,0,78),(40,0,90),(42,0,102)]) (n au (n av (f aa) (f aa)) (n ab (f aW) z)) gU)) (n (boot_o_6 P) (n (boot_o_10 P) (n aa (n aa (f aQ) (f ac)) (n (aG P) (f aR) z)) gV) (n af (n aa (n aI (f aJ) (f ba)) (n aK (f ac) z)) gW)))
theorem te11941921713403703136:tw11941921713403703136=tw11941921713403703136:=rfl
noncomputable def tw16613467917471436193:Params→BT:=fun P=>n (boot_o_0 P) (n (boot_o_1 P) (n (f9 P) (n (boot_o_7 P) (n aa (n az (n (aL P) (n bk (f aa) (f d9)) (n bN (f c7) z)) (n aZ (n (bO P) (f cI) (f aa)) (n aa (f ea) z))) (n ag (n aS (n br (f aa) (f aa)) (n bP (f ab) z)) (n (bd P) (n bA (f c8) z) (n cg (f aa) z)))) (n ab (n ah (n aM (n (bs P) (f ch) (f aa)) gX) (n a6 gY (n bQ (f dA) z))) (n aa (n (a0 P) (n bB (f ab) (f dB)) (n bR (f dC) z)) (n be (n ci (f c9) z) gZ)))) (n aa (n aA (n ab (n aN (n bl (f aa) (f ab)) (n bS (f aa) z)) (n (a7 P) (n bT (f cJ) (f dD)) (n bU (f dE) z))) (n aa (n aT (n (bC P) (f da) (f aa)) (n bV (f db) z)) (n bf (n ac (f (cK P)) z) (n aa (f eb) z)))) (n ai (n aj (n (aU P) (n bt (f aa) (f dF)) (n bW (f dG) z)) (n a8 (n bD (f aa) z) (n cj (f aa) z))) (n aB (n a1 (n bE (f cL) (f aa)) (n aa (f ac) z)) (n (bm P) (n bX (f dc) z) (n ck (f dH) z)))))) (n (boot_o_5 P) (n (boot_o_9 P) (n ak (n al (n ab (n (bg P) (f cm) (f dI)) (n (bY P) (f ab) z)) (n ad (n bZ (f df) (f ec)) (n cn (f aa) z))) (n ac (n (aO P) (n ad (f cM) (f dJ)) gX) (n ab (n b0 (f cN) z) (n ab (f dK) z)))) (n aa (n aa (n ad (n ab (f ac) (f ed)) (n cp (f dg) z)) (n (a2 P) (n bF (f cO) (f dL)) gZ)) (n bu (n ab (n (bv P) (f aa) (f ab)) (n ab (f dh) z)) (n ad gX (n cP (f aa) z))))) (n ae (n am (n aa (n (aC P) (n ad (f cQ) (f dM)) (n cq (f di) z)) (n ab g0 (n ab (f ee) z))) (n aD (n ad (n ab (f cR) (f ef)) (n cr (f aa) z)) (n (bb P) (n aa (f cS) z) (n cs (f dN) z)))) (n aa (n aE (n ab (n (bn P) (f dj) (f ab)) (n ab (f dk) z)) (n ad (n bG (f cT) z) (n cU (f dO) z))) (n ad (n (aV P) (n aa (f aa) (f dP)) (n b1 (f aa) z)) (n ab (n ct (f dQ) z) (n ab (f aa) z))))))) (n (boot_o_2 P) (n (boot_o_4 P) (n (boot_o_8 P) (n ab (n an (n aa (n aa (f cV) (f dR)) (n b2 (f aa) z)) (n a3 g1 (n ab (f eg) z))) (n ao (n aa (n bw (f ab) (f eh)) (n b3 (f dl) z)) (n aa (n b4 (f cW) z) gZ))) (n ap (n aq (n aP g1 g2) (n aa (n b5 (f dm) (f ei)) (n b6 (f aa) z))) (n (ar P) (n aa (n aa (f cX) (f aa)) (n aa (f dn) z)) (n bh (n cu (f dp) z) (n ab (f dS) z))))) (n ga (n au (n av (n aa (n bo (f ab) (f ej)) (n b7 (f dT) z)) (n aa gY gX)) (n ab (n aW (n aa (f cY) (f ab)) (n aa (f dq) z)) (n aa (n (cv P) (f cZ) z) (n c0 (f dU) z)))) (n aw (n aa (n aa (n aa (f dr) (f aa)) (n aa (f ds) z)) (n a9 (n (bH P) (f ab) z) (n aa (f ek) z))) (n aF (n aa (n bI (f c1) (f el)) (n cw (f (dt [(d P "__module__" 666 (v "patchkin.desk" 605)),(d P "__qualname__" 668 (v "Desk" 667)),(d P "__firstlineno__" 670 (vi 217 669)),(d P "__init__" 677 (r 359)),(d P "begin" 685 (r 366)),(d P "stores" 692 (r 373)),(d P "patches" 699 (r 380)),(d P "has" 705 (r 385)),(d P "record" 711 (r 390)),(d P "cut" 717 (r 395)),(d P "back" 727 (r 402)),(d P "take" 733 (r 407)),(d P "drop" 743 (r 414)),(d P "leans" 749 (r 419))] 14)) z)) (n aa gX (n aa (f dV) z)))))) (n (boot_o_6 P) (n (boot_o_10 P) (n aa (n aa (n aQ (n bi (f cx) (f aa)) (n b8 (f du) z)) (n ac (n b9 (f c2) (f dW)) (n ca (f ab) z))) (n (aG P) (n aR (n ac (f aa) (f dX)) (n ab (f dY) z)) (n bj (n aa (f c3) z) (n cy (f aa) z)))) (n aH (n ab (n ac (n bx (f (dv P)) (f dZ)) (n cb (f aa) z)) (n a4 (n bJ (f c4) z) (n ab (f d0) z))) (n ax (n a5 (n bz (f dw) (f d1)) (n cc (f aa) z)) (n ac g2 (n cz (f em) z))))) (n af (n aa (n aI (n aJ (n ac (f cA) (f d2)) (n cB (f dx) z)) (n ba (n bK (f c5) (f d3)) (n cC (f d4) z))) (n aK (n ac (n bL (f aa) (f d5)) (n cd (f ab) z)) (n bc (n cD (f c6) z) (n cE (f aa) z)))) (n ab (n ay (n aX (n bp (f dy) (f d6)) (n cF (f aa) z)) (n ac (n bM (f aa) z) (n cG (f d7) z))) (n ac (n aY (n ac (f ab) (f d8)) (n ce (f (l3 [(219,4,358),(224,4,365),(230,4,372),(233,4,379),(236,4,384),(240,4,389),(250,4,394),(259,4,401),(265,4,406),(275,4,413),(283,4,418),(287,4,425)])) z)) (n bq (n cf (f dz) z) (n cH (f ab) z)))))))
theorem te16613467917471436193:tw16613467917471436193=tw16613467917471436193:=rfl
def tw4436232627764204130:Params→BT:=fun P=>n (boot_o_0 P) (n (boot_o_1 P) (n (gk P) (n (boot_o_7 P) (n aa (n az (n (aL P) (f bk) (f bN)) (n aZ (f (bO P)) (f aa))) (n ag (n aS (f br) (f bP)) (n (bd P) (f bA) z))) (n ab (n ah (n aM (f (bs P)) (f aa)) (n a6 (f aa) (f bQ))) (n aa (n (a0 P) (f bB) (f bR)) (n be (f ci) z)))) (n aa (n aA (n ab (n aN (f bl) (f bS)) (n (a7 P) (f bT) (f bU))) (n aa (n aT (f (bC P)) (f bV)) (n bf (f ac) z))) (n ai (n aj (n (aU P) (f bt) (f bW)) (n a8 (f bD) z)) (n aB (n a1 (f bE) (f aa)) (n (bm P) (f bX) z))))) (n (boot_o_5 P) (n (boot_o_9 P) (n ak (n al (n ab (f (bg P)) (f (bY P))) (n ad (f bZ) (f cn))) (n ac (n (aO P) (f ad) (f aa)) (n ab (f b0) z))) (n aa (n aa (n ad (f ab) (f cp)) (n (a2 P) (f bF) z)) (n bu (n ab (f (bv P)) (f ab)) (n ad (f aa) z)))) (n ae (n am (n aa (n (aC P) (f ad) (f cq)) g0) (n aD (n ad (f ab) (f cr)) (n (bb P) (f aa) z))) (n aa (n aE (n ab (f (bn P)) (f ab)) (n ad (f bG) z)) (n ad (n (aV P) (f aa) (f b1)) (n ab (f ct) z)))))) (n (boot_o_2 P) (n (boot_o_4 P) (n (boot_o_8 P) (n ab (n an (n aa (f aa) (f b2)) (n a3 (f aa) (f ab))) (n ao (n aa (f bw) (f b3)) (n aa (f b4) z))) (n ap g3 (n (ar P) gY (n bh (f cu) z)))) (n (l3 [(1,0,20),(5,0,27),(13,0,32),(18,0,39),(23,0,46),(34,0,53),(36,0,66),(38,0,78),(40,0,90),(42,0,102),(44,0,114),(46,0,126),(48,0,138),(50,0,150),(53,0,162),(60,0,183),(68,0,202),(74,0,207),(79,0,214),(88,0,221),(94,0,226),(101,0,231)]) (n au (n av (n aa (f bo) (f b7)) gY) (n ab (n aW (f aa) (f aa)) (n aa (f (cv P)) z))) (n aw (n aa gY (n a9 (f (bH P)) z)) (n aF (n aa (f bI) (f cw)) gX)))) (n (boot_o_6 P) (n (boot_o_10 P) (n aa (n aa (n aQ (f bi) (f b8)) (n ac (f b9) (f ca))) (n (aG P) (n aR (f ac) (f ab)) (n bj (f aa) z))) (n aH (n ab (n ac (f bx) (f cb)) (n a4 (f bJ) z)) (n ax (n a5 (f bz) (f cc)) (n ac (f ab) z)))) (n af (n aa (n aI (n aJ (f ac) (f cB)) (n ba (f bK) (f cC))) (n aK (n ac (f bL) (f cd)) (n bc (f cD) z))) (n ab (n ay (n aX (f bp) (f cF)) (n ac (f bM) z)) (n ac (n aY (f ac) (f ce)) (n bq (f cf) z))))))
theorem te4436232627764204130:tw4436232627764204130=tw4436232627764204130:=rfl
def tw2693171500770333706:Params→BT:=fun P=>n (boot_o_0 P) (n (boot_o_1 P) (n (fO P) (n (boot_o_7 P) (n aa (g4 P) (n ag (n aS (n br (n aa (f eZ) z) (f aa)) (n bP g2 (f en))) (g5 P))) (n ab (n ah (n aM (n (bs P) (n ch (f e2) z) (f aa)) (n aa gX (f e3))) g6) (n aa (n (a0 P) (n bB (n ab (f e4) z) (f dB)) (n bR (n dC (f (fv "law" "law" (x 55))) z) (f ep))) g7))) (n aa (n aA (g8 P) (n aa (n aT (n (bC P) (n da (f e6) z) (f aa)) (n bV (n db (f fS) z) (f es))) (g9 P))) (n ai (n aj (n (aU P) (n bt (n aa (f e8) z) (f dF)) (n bW (n dG (f gc) z) (f ab))) ha) (hb P)))) (n (boot_o_5 P) (n (boot_o_9 P) (n ak (hc P) (n ac (n (aO P) (n ad (n cM (f ab) z) (f dJ)) hd) he)) (n aa (n aa (n ad (n ab (n ac (f aa) z) (f ed)) (n cp (n dg (f fU) z) (f ex))) (n (a2 P) (n bF (n cO (f aa) z) (f dL)) hf)) (n bu (n ab (n (bv P) (n aa (f fV) z) (f ab)) (n ab (n dh (f fW) z) (f ab))) hg))) (n ae (n am (hh P) (n aD (n ad (n ab (n cR (f aa) z) (f ef)) (n cr gX (f fk))) (hi P))) (n aa (n aE (n ab (n (bn P) (n dj (f fX) z) (f ab)) (n ab (n dk (f fY) z) (f aa))) hj) (hk P))))) (n (boot_o_2 P) (n (boot_o_4 P) (n (boot_o_8 P) (n ab hl (n ao (n aa (n bw (n ab (f aa) z) (f eh)) (n b3 (n dl (f fZ) z) (f eG))) hm)) (n ap (n aq (n aP (n aa (n aa (f ft) z) (f ab)) (n ab g2 (f eI))) hn) (n (ar P) (n aa (n aa (n cX (f aa) z) (f aa)) (n aa (n dn (f f0) z) (f aa))) ho))) (n gd (n au hp (n ab (n aW (n aa (n cY (f fy) z) (f ab)) (n aa (n dq (f f3) z) (f aa))) (hq P))) (n aw (n aa (n aa (n aa (n dr (f aa) z) (f aa)) (n aa (n ds (f f4) z) (f eO))) (hr P)) (hs P)))) (n (boot_o_6 P) (n (boot_o_10 P) (n aa ht (n (aG P) (n aR (n ac (n aa (f f5) z) (f dX)) (n ab (n dY (f ge) z) (f ab))) hu)) (n aH (n ab (n ac (n bx (n (dv P) (f ab) z) (f dZ)) (n cb gX (f aa))) hv) hw)) (n af (n aa hx (n aK (n ac (n bL gZ (f d5)) (n cd g2 (f eU))) hy)) (n ab (n ay (n aX (n bp (n dy (f fL) z) (f d6)) (n cF gX (f fM))) hz) hA))))
theorem te2693171500770333706:tw2693171500770333706=tw2693171500770333706:=rfl
def tw13997228326291335530:Params→BT:=fun P=>n (boot_o_0 P) (n (boot_o_1 P) (n (gm P) (n (boot_o_7 P) (n aa (n az (n (aL P) (f bk) z) (f aZ)) (n ag (f aS) (f (bd P)))) (n ab (n ah (f aM) (f a6)) (n aa (f (a0 P)) (f be)))) (n aa (hB P) (n ai (n aj (f (aU P)) (f a8)) (n aB (f a1) (f (bm P)))))) (n (boot_o_5 P) (n (boot_o_9 P) (hC P) (n aa (n aa (f ad) (f (a2 P))) (n (ty (cl (S "PatchError") [(w "ValueError")] [(r 57),(w "ValueError"),(w "Exception"),(w "BaseException"),(w "object")] 56 (S "PatchError") true [] [(r 70),(r 82),(r 94),(r 106),(r 118),(r 130)] false none false) [(k (r 48)),none,(k (v "PatchError" 238)),(k (v "PatchError" 246)),(k (b "ValueError.__new__")),(k (vl true))]) (f ab) (f ad)))) (n ae (hD P) (n aa (n aE (f ab) (f ad)) (n ad (f (aV P)) (f ab)))))) (n (boot_o_2 P) (n (boot_o_4 P) (n (boot_o_8 P) (n ab (n an gX (f a3)) (n ao (f aa) (f aa))) (n ap (n aq (f aP) (f aa)) (n (ar P) (f aa) (f bh)))) (n (l3 [(1,0,20),(5,0,27),(13,0,32),(18,0,39),(23,0,46),(34,0,53),(36,0,66),(38,0,78),(40,0,90),(42,0,102),(44,0,114),(46,0,126)]) hE (n aw (n aa (f aa) (f a9)) (n aF (f aa) (f aa))))) (n (boot_o_6 P) (n (boot_o_10 P) (hF P) (n aH (n ab (f ac) (f a4)) (n ax (f a5) (f ac)))) (n af hG (n ab (n ay (f aX) (f ac)) (n ac (f aY) (f bq))))))
theorem te13997228326291335530:tw13997228326291335530=tw13997228326291335530:=rfl
def tw8107745754574161418:Params→BT:=fun P=>n (boot_o_0 P) (n (boot_o_1 P) (n (f9 P) (n (boot_o_7 P) (n aa (n az (n (aL P) (n bk (f aa) z) (n bN (f c7) z)) (n aZ (n (bO P) (f cI) z) (f aa))) (n ag (n aS (n br (f aa) z) (n bP (f ab) z)) (n (bd P) (n bA (f c8) z) (f cg)))) (n ab (n ah (n aM (n (bs P) (f ch) z) gX) (n a6 gX (f bQ))) (n aa (n (a0 P) (n bB (f ab) z) (n bR (f dC) z)) (n be (n ci (f c9) z) (f aa))))) (n aa (n aA (n ab (n aN (n bl (f aa) z) (n bS (f aa) z)) (n (a7 P) (n bT (f cJ) z) (f bU))) (n aa (n aT (n (bC P) (f da) z) (n bV (f db) z)) (n bf (n ac (f (cK P)) z) (f aa)))) (n ai (n aj (n (aU P) (n bt (f aa) z) (n bW (f dG) z)) (n a8 (n bD (f aa) z) (f cj))) (n aB (n a1 (n bE (f cL) z) (f aa)) (n (bm P) (n bX (f dc) z) (f ck)))))) (n (boot_o_5 P) (n (boot_o_9 P) (n ak (n al (n ab (n (bg P) (f cm) z) (n (bY P) (f ab) z)) (n ad (n bZ (f df) z) (f cn))) (n ac (n (aO P) (n ad (f cM) z) gX) (n ab (n b0 (f cN) z) (f ab)))) (n aa (n aa (n ad hH (n cp (f dg) z)) (n (a2 P) (n bF (f cO) z) (f aa))) (n bu (n ab (n (bv P) (f aa) z) (n ab (f dh) z)) (n ad gX (f cP))))) (n ae (n am (n aa (n (aC P) (n ad (f cQ) z) (n cq (f di) z)) (n ab g2 (f ab))) (n aD (n ad (n ab (f cR) z) (n cr (f aa) z)) (n (bb P) (n aa (f cS) z) (f cs)))) (n aa (n aE (n ab (n (bn P) (f dj) z) (n ab (f dk) z)) (n ad (n bG (f cT) z) (f cU))) (n ad (n (aV P) gX (f b1)) (n ab (n ct (f dQ) z) (f ab))))))) (n (boot_o_2 P) (n (boot_o_4 P) (n (boot_o_8 P) (n ab (n an (n aa (n aa (f cV) z) (n b2 (f aa) z)) (n a3 gX (f ab))) (n ao (n aa (n bw (f ab) z) (n b3 (f dl) z)) (n aa (n b4 (f cW) z) (f aa)))) (n ap (n aq (n aP gX g2) (n aa (n b5 (f dm) z) (f b6))) (n (ar P) (n aa (n aa (f cX) z) (n aa (f dn) z)) (n bh (n cu (f dp) z) (f ab))))) (n (l3 [(1,0,20),(5,0,27),(13,0,32),(18,0,39),(23,0,46),(34,0,53),(36,0,66),(38,0,78),(40,0,90),(42,0,102),(44,0,114),(46,0,126),(48,0,138),(50,0,150),(53,0,162),(60,0,183),(68,0,202),(74,0,207),(79,0,214),(88,0,221),(94,0,226),(101,0,231),(104,0,238),(114,0,245),(120,0,250),(136,0,257),(141,0,262),(156,0,269),(181,0,318),(187,0,325),(193,0,332),(198,0,339),(209,0,344)]) (n au (n av (n aa (n bo (f ab) z) (n b7 (f dT) z)) hd) (n ab (n aW (n aa (f cY) z) (n aa (f dq) z)) (n aa (n (cv P) (f cZ) z) (f c0)))) (n aw (n aa (n aa (n aa (f dr) z) (n aa (f ds) z)) (n a9 (n (bH P) (f ab) z) (f aa))) (n aF (n aa (n bI (f c1) z) (f cw)) hd)))) (n (boot_o_6 P) (n (boot_o_10 P) (n aa (n aa (n aQ (n bi (f cx) z) (n b8 (f du) z)) (n ac (n b9 (f c2) z) (f ca))) (n (aG P) (n aR (n ac (f aa) z) (n ab (f dY) z)) (n bj (n aa (f c3) z) (f cy)))) (n aH (n ab (n ac (n bx (f (dv P)) z) (n cb (f aa) z)) (n a4 (n bJ (f c4) z) (f ab))) (n ax (n a5 (n bz (f dw) z) (f cc)) (n ac g2 (f cz))))) (n af (n aa (n aI (n aJ (n ac (f cA) z) (n cB (f dx) z)) (n ba (n bK (f c5) z) (f cC))) (n aK (n ac (n bL (f aa) z) (n cd (f ab) z)) (n bc (n cD (f c6) z) (f cE)))) (n ab (n ay (n aX (n bp (f dy) z) (n cF (f aa) z)) (n ac (n bM (f aa) z) (f cG))) (n ac (n aY (n ac (f ab) z) (f ce)) (n bq (n cf (f dz) z) (f cH)))))))
theorem te8107745754574161418:tw8107745754574161418=tw8107745754574161418:=rfl
def tw12466670132086788524:Params→BT:=fun P=>n (boot_o_0 P) (n (boot_o_1 P) (n (gq P) (n (boot_o_7 P) (n aa (n az (n (aL P) (f bk) z) (n aZ (f (bO P)) z)) (n ag (n aS (f br) z) (n (bd P) (f bA) z))) (n ab (n ah (n aM (f (bs P)) z) (n a6 (f aa) z)) (n aa (n (a0 P) (f bB) z) (f be)))) (n aa (n aA (n ab (n aN (f bl) z) (n (a7 P) (f bT) z)) (n aa (n aT (f (bC P)) z) (f bf))) (n ai (n aj (n (aU P) (f bt) z) (n a8 (f bD) z)) (n aB (n a1 (f bE) z) (f (bm P)))))) (n (boot_o_5 P) (n (boot_o_9 P) (n ak (n al (n ab (f (bg P)) z) (n ad (f bZ) z)) (n ac (n (aO P) (f ad) z) (n ab (f b0) z))) (n aa (n aa (n ad (f ab) z) (n (a2 P) (f bF) z)) (n bu (n ab (f (bv P)) z) (f ad)))) (n ae (n am (n aa (n (aC P) (f ad) z) g2) (n aD (n ad (f ab) z) (f (bb P)))) (n aa (n aE (n ab (f (bn P)) z) (n ad (f bG) z)) (n ad (n (aV P) (f aa) z) (f ab)))))) (n (boot_o_2 P) (n (boot_o_4 P) (n (boot_o_8 P) (n ab (n an gX (n a3 (f aa) z)) (n ao (n aa (f bw) z) (n aa (f b4) z))) (n ap (n aq (n aP (f aa) z) (n aa (f b5) z)) (n (ar P) gX (f bh)))) (n (l3 [(1,0,20),(5,0,27),(13,0,32),(18,0,39),(23,0,46),(34,0,53),(36,0,66),(38,0,78),(40,0,90),(42,0,102),(44,0,114),(46,0,126),(48,0,138),(50,0,150),(53,0,162)]) (n au (n av (n aa (f bo) z) gX) (n ab (n aW (f aa) z) (f aa))) (n aw (n aa gX (n a9 (f (bH P)) z)) (n aF (n aa (f bI) z) (f aa))))) (n (boot_o_6 P) (n (boot_o_10 P) (n aa (n aa (n aQ (f bi) z) (n ac (f b9) z)) (n (aG P) (n aR (f ac) z) (f bj))) (n aH (n ab (n ac (f bx) z) (n a4 (f bJ) z)) (n ax (n a5 (f bz) z) (f ac)))) (n af (n aa (n aI (n aJ (f ac) z) (n ba (f bK) z)) (n aK (n ac (f bL) z) (f bc))) (n ab (n ay (n aX (f bp) z) (n ac (f bM) z)) (n ac (n aY (f ac) z) (f bq))))))
theorem te12466670132086788524:tw12466670132086788524=tw12466670132086788524:=rfl
def tw17759488400144784526:Params→BT:=fun P=>n (boot_o_0 P) (n (boot_o_1 P) (n (gs P) (n (boot_o_7 P) (n aa (n az (n (aL P) (n bk (f aa) (f d9)) (n bN (f c7) (f ab))) (n aZ (n (bO P) (f cI) (f aa)) (n aa (f ea) (f aa)))) (n ag (n aS (n br (f aa) (f aa)) (n bP (f ab) (f en))) (n (bd P) (n bA (f c8) (f e1)) (n cg (f aa) (f eo))))) (n ab (n ah (n aM (n (bs P) (f ch) (f aa)) (n aa (f aa) (f e3))) (n a6 gY (n bQ (f dA) (f ab)))) (n aa (n (a0 P) (n bB (f ab) (f dB)) (n bR (f dC) (f ep))) (n be (n ci (f c9) (f aa)) (n aa (f ab) (f eq)))))) (n aa (n aA (n ab (n aN (n bl (f aa) (f ab)) (n bS (f aa) (f er))) (n (a7 P) (n bT (f cJ) (f dD)) (n bU (f dE) (f e5)))) (n aa (n aT (n (bC P) (f da) (f aa)) (n bV (f db) (f es))) (n bf (n ac (f (cK P)) (f ab)) (n aa (f eb) (f et))))) (n ai (n aj (n (aU P) (n bt (f aa) (f dF)) (n bW (f dG) (f ab))) (n a8 (n bD (f aa) (f aa)) (n cj (f aa) (f eu)))) (n aB (n a1 (n bE (f cL) (f aa)) (n aa (f ac) (f aa))) (n (bm P) (n bX (f dc) (f fb)) (n ck (f dH) z)))))) (n (boot_o_5 P) (n (boot_o_9 P) (n ak (n al (n ab (n (bg P) (f cm) (f dI)) (n (bY P) (f ab) (f aa))) (n ad (n bZ (f df) (f ec)) (n cn (f aa) (f ev)))) (n ac (n (aO P) (n ad (f cM) (f dJ)) gY) (n ab (n b0 (f cN) (f ew)) (n ab (f dK) (f ff))))) (n aa (n aa (n ad (n ab (f ac) (f ed)) (n cp (f dg) (f ex))) (n (a2 P) (n bF (f cO) (f dL)) hf)) (n bu (n ab (n (bv P) (f aa) (f ab)) (n ab (f dh) (f ab))) (n ad (n aa (f aa) (f ey)) (n cP (f aa) (f fh)))))) (n ae (n am (n aa (n (aC P) (n ad (f cQ) (f dM)) (n cq (f di) (f aa))) (n ab g0 (n ab (f ee) (f ez)))) (n aD (n ad (n ab (f cR) (f ef)) (n cr (f aa) (f fk))) (n (bb P) (n aa (f cS) (f eA)) (n cs (f dN) (f (eB P)))))) (n aa (n aE (n ab (n (bn P) (f dj) (f ab)) (n ab (f dk) (f aa))) (n ad (n bG (f cT) (f eC)) (n cU (f dO) (f aa)))) (n ad (n (aV P) (n aa (f aa) (f dP)) (n b1 (f aa) (f eD))) (n ab (n ct (f dQ) (f eE)) (n ab (f aa) z))))))) (n (boot_o_2 P) (n (boot_o_4 P) (n (boot_o_8 P) (n ab (n an (n aa (n aa (f cV) (f dR)) (n b2 (f aa) (f eF))) (n a3 g1 (n ab (f eg) (f ab)))) (n ao (n aa (n bw (f ab) (f eh)) (n b3 (f dl) (f eG))) (n aa (n b4 (f cW) (f eH)) hf))) (n ap (n aq (n aP g1 (n ab (f ab) (f eI))) (n aa (n b5 (f dm) (f ei)) (n b6 (f aa) (f eJ)))) (n (ar P) (n aa (n aa (f cX) (f aa)) (n aa (f dn) (f aa))) (n bh (n cu (f dp) (f ab)) (n ab (f dS) (f eK)))))) (n ga (n au (n av (n aa (n bo (f ab) (f ej)) (n b7 (f dT) (f eL))) (n aa gY (n aa (f aa) (f eM)))) (n ab (n aW (n aa (f cY) (f ab)) (n aa (f dq) (f aa))) (n aa (n (cv P) (f cZ) (f fz)) (n c0 (f dU) (f eN))))) (n aw (n aa (n aa (n aa (f dr) (f aa)) (n aa (f ds) (f eO))) (n a9 (n (bH P) (f ab) (f ab)) (n aa (f ek) (f eP)))) (n aF (n aa (n bI (f c1) (f el)) (n cw (f (fB P)) (f fC))) (n aa (n aa (f aa) (f eQ)) (n aa (f dV) z)))))) (n (boot_o_6 P) (n (boot_o_10 P) (n aa (n aa (n aQ (n bi (f cx) (f aa)) (n b8 (f du) (f fD))) (n ac (n b9 (f c2) (f dW)) (n ca (f ab) (f aa)))) (n (aG P) (n aR (n ac (f aa) (f dX)) (n ab (f dY) (f ab))) (n bj (n aa (f c3) (f aa)) (n cy (f aa) (f eR))))) (n aH (n ab (n ac (n bx (f (dv P)) (f dZ)) (n cb (f aa) (f aa))) (n a4 (n bJ (f c4) (f eS)) (n ab (f d0) (f fF)))) (n ax (n a5 (n bz (f dw) (f d1)) (n cc (f aa) (f eT))) (n ac (n ab (f ab) (f aa)) (n cz (f em) (f fI)))))) (n af (n aa (n aI (n aJ (n ac (f cA) (f d2)) (n cB (f dx) (f ab))) (n ba (n bK (f c5) (f d3)) (n cC (f d4) (f aa)))) (n aK (n ac (n bL (f aa) (f d5)) (n cd (f ab) (f eU))) (n bc (n cD (f c6) (f eV)) (n cE (f aa) (f eW))))) (n ab (n ay (n aX (n bp (f dy) (f d6)) (n cF (f aa) (f fM))) (n ac (n bM (f aa) (f aa)) (n cG (f d7) (f ab)))) (n ac (n aY (n ac (f ab) (f d8)) (n ce (f fN) (f eX))) (n bq (n cf (f dz) (f aa)) (n cH (f ab) z)))))))
theorem te17759488400144784526:tw17759488400144784526=tw17759488400144784526:=rfl
def tw15359710222760302542:Params→BT:=fun P=>n (boot_o_0 P) (n (boot_o_1 P) (n (gt P) (n (boot_o_7 P) (n aa (g4 P) (n ag (n aS (n br (n aa (f eZ) z) (f aa)) (n bP (f ab) (f en))) (g5 P))) (n ab (n ah (n aM (n (bs P) (n ch (f e2) z) (f aa)) (n aa (f aa) (f e3))) g6) (n aa (n (a0 P) (n bB (n ab (f e4) z) (f dB)) (n bR (f dC) (f ep))) g7))) (n aa (n aA (g8 P) (n aa (n aT (n (bC P) (n da (f e6) z) (f aa)) (n bV (f db) (f es))) (g9 P))) (n ai (n aj (n (aU P) (n bt (n aa (f e8) z) (f dF)) (n bW (f dG) (f ab))) ha) (hb P)))) (n (boot_o_5 P) (n (boot_o_9 P) (n ak (hc P) (n ac (n (aO P) (n ad (n cM (f ab) z) (f dJ)) gY) he)) (n aa (n aa (n ad (n ab (n ac (f aa) z) (f ed)) (n cp (f dg) (f ex))) (n (a2 P) (n bF (n cO (f aa) z) (f dL)) hf)) (n bu (n ab (n (bv P) (n aa (f fV) z) (f ab)) (n ab (f dh) (f ab))) hg))) (n ae (n am (hh P) (n aD (n ad (n ab (n cR (f aa) z) (f ef)) (n cr (f aa) (f fk))) (hi P))) (n aa (n aE (n ab (n (bn P) (n dj (f fX) z) (f ab)) (n ab (f dk) (f aa))) hj) (hk P))))) (n (boot_o_2 P) (n (boot_o_4 P) (n (boot_o_8 P) (n ab hl (n ao (n aa (n bw (n ab (f aa) z) (f eh)) (n b3 (f dl) (f eG))) hm)) (n ap (n aq (n aP (n aa (n aa (f ft) z) (f ab)) (n ab (f ab) (f eI))) hn) (n (ar P) (n aa (n aa (n cX (f aa) z) (f aa)) (n aa (f dn) (f aa))) ho))) (n (l3 [(1,0,20),(5,0,27),(13,0,32),(18,0,39),(23,0,46),(34,0,53),(36,0,66),(38,0,78),(40,0,90),(42,0,102),(44,0,114),(46,0,126),(48,0,138),(50,0,150),(53,0,162),(60,0,183),(68,0,202),(74,0,207),(79,0,214),(88,0,221),(94,0,226),(101,0,231),(104,0,238),(114,0,245),(120,0,250),(136,0,257),(141,0,262),(156,0,269),(181,0,318),(187,0,325),(193,0,332),(198,0,339),(209,0,344),(217,0,351),(335,0,512),(339,0,519),(343,0,526),(355,0,531),(363,0,538),(379,0,543),(398,0,548),(410,0,555),(412,0,562),(421,0,569),(428,0,576),(435,0,581)]) (n au hp (n ab (n aW (n aa (n cY (f fy) z) (f ab)) (n aa (f dq) (f aa))) (hq P))) (n aw (n aa (n aa (n aa (n dr (f aa) z) (f aa)) (n aa (f ds) (f eO))) (hr P)) (hs P)))) (n (boot_o_6 P) (n (boot_o_10 P) (n aa ht (n (aG P) (n aR (n ac (n aa (f f5) z) (f dX)) (n ab (f dY) (f ab))) hu)) (n aH (n ab (n ac (n bx (n (dv P) (f ab) z) (f dZ)) (n cb (f aa) (f aa))) hv) hw)) (n af (n aa hx (n aK (n ac (n bL gZ (f d5)) (n cd (f ab) (f eU))) hy)) (n ab (n ay (n aX (n bp (n dy (f fL) z) (f d6)) (n cF (f aa) (f fM))) hz) hA))))
theorem te15359710222760302542:tw15359710222760302542=tw15359710222760302542:=rfl
def tw9890627459800024239:Params→BT:=fun P=>n (boot_o_0 P) (n (boot_o_1 P) (n (gv P) (n (boot_o_7 P) (hI P) (n ab (n ah (n aM (f (bs P)) z) (f a6)) (n aa (f (a0 P)) (f be)))) (n aa (hB P) (n ai (n aj (n (aU P) (f bt) z) (f a8)) (n aB (f a1) (f (bm P)))))) (n (boot_o_5 P) (n (boot_o_9 P) (hC P) (n aa (n aa (n ad (f ab) z) (f (a2 P))) (n (ty (cl (S "PatchError") [(w "ValueError")] [(r 57),(w "ValueError"),(w "Exception"),(w "BaseException"),(w "object")] 56 (S "PatchError") true [] [(r 70),(r 82),(r 94),(r 106),(r 118),(r 130),(r 142)] false none false) [(k (r 48)),none,(k (v "PatchError" 238)),(k (v "PatchError" 246)),(k (b "ValueError.__new__")),(k (vl true))]) (f ab) (f ad)))) (n ae (n am (n aa (n (aC P) (f ad) z) (f ab)) (n aD (f ad) (f (bb P)))) (hJ P)))) (n (boot_o_2 P) (n (boot_o_4 P) (n (boot_o_8 P) hK (n ap (n aq (n aP (f aa) z) (f aa)) (n (ar P) (f aa) (f bh)))) (n (l3 [(1,0,20),(5,0,27),(13,0,32),(18,0,39),(23,0,46),(34,0,53),(36,0,66),(38,0,78),(40,0,90),(42,0,102),(44,0,114),(46,0,126),(48,0,138)]) hE (n aw (n aa gX (f a9)) (n aF (f aa) (f aa))))) (n (boot_o_6 P) (n (boot_o_10 P) (hF P) (n aH (n ab (n ac (f bx) z) (f a4)) (n ax (f a5) (f ac)))) (n af (n aa (n aI (n aJ (f ac) z) (f ba)) (n aK (f ac) (f bc))) hL)))
theorem te9890627459800024239:tw9890627459800024239=tw9890627459800024239:=rfl
def tw1084928265695025903:Params→BT:=fun P=>n (boot_o_0 P) (n (boot_o_1 P) (n (gy P) (n (boot_o_7 P) (n aa (n az (f (aL P)) z) (n ag (f aS) z)) (n ab (n ah (f aM) z) (f aa))) (n aa hM (n ai (n aj (f (aU P)) z) (f aB)))) (n (boot_o_5 P) (n (boot_o_9 P) (n ak (n al (f ab) z) (n ac (f (aO P)) z)) (n aa (n aa (f ad) z) (f (ty (cl (S "PatchError") [(w "ValueError")] [(r 57),(w "ValueError"),(w "Exception"),(w "BaseException"),(w "object")] 56 (S "PatchError") true [] [(r 70),(r 82)] false none false) [(k (r 48)),none,(k (v "PatchError" 238)),(k (v "PatchError" 246)),(k (b "ValueError.__new__")),(k (vl true))])))) (n ae (n am (n aa (f (aC P)) z) (f aD)) (n aa (n aE (f ab) z) (f ad))))) (n (boot_o_2 P) (n (boot_o_4 P) (n (boot_o_8 P) (n ab (n an (f aa) z) (n ao (f aa) z)) (n ap (n aq (f aP) z) (f (ar P)))) (n (l3 [(1,0,20),(5,0,27),(13,0,32),(18,0,39),(23,0,46),(34,0,53),(36,0,66),(38,0,78)]) hN (n aw gX (f aF)))) (n (boot_o_6 P) (n (boot_o_10 P) (n aa (n aa (f aQ) z) (n (aG P) (f aR) z)) (n aH hH (f ax))) (n af (n aa (n aI (f aJ) z) (f aK)) (n ab (n ay (f aX) z) (f ac)))))
theorem te1084928265695025903:tw1084928265695025903=tw1084928265695025903:=rfl
def tw5343743199570699569:Params→BT:=fun P=>n (boot_o_0 P) (n (boot_o_1 P) (n (gB P) (n (boot_o_7 P) (n aa (n az (n (aL P) (n bk (f aa) z) (f bN)) (n aZ (n (bO P) (f cI) z) (f aa))) (n ag (n aS (n br (f aa) z) (f bP)) (n (bd P) (n bA (f c8) z) (f cg)))) (n ab (n ah (n aM (n (bs P) (f ch) z) (f aa)) (n a6 gX (f bQ))) (n aa (n (a0 P) (n bB (f ab) z) (f bR)) (n be (n ci (f c9) z) (f aa))))) (n aa (n aA (n ab (n aN (n bl (f aa) z) (f bS)) (n (a7 P) (n bT (f cJ) z) (f bU))) (n aa (n aT (n (bC P) (f da) z) (f bV)) (n bf (n ac (f (cK P)) z) (f aa)))) (n ai (n aj (n (aU P) (n bt (f aa) z) (f bW)) (n a8 (n bD (f aa) z) (f cj))) (n aB (n a1 (n bE (f cL) z) (f aa)) (n (bm P) (f bX) (f ck)))))) (n (boot_o_5 P) (n (boot_o_9 P) (n ak (n al (n ab (n (bg P) (f cm) z) (f (bY P))) (n ad (n bZ (f df) z) (f cn))) (n ac (n (aO P) (n ad (f cM) z) (f aa)) (n ab (n b0 (f cN) z) (f ab)))) (n aa (n aa (n ad hH (f cp)) (n (a2 P) (n bF (f cO) z) (f aa))) (n bu (n ab (n (bv P) (f aa) z) (f ab)) (n ad (f aa) (f cP))))) (n ae (n am (n aa (n (aC P) (n ad (f cQ) z) (f cq)) (n ab g2 (f ab))) (n aD (n ad (n ab (f cR) z) (f cr)) (n (bb P) (n aa (f cS) z) (f cs)))) (n aa (n aE (n ab (n (bn P) (f dj) z) (f ab)) (n ad (n bG (f cT) z) (f cU))) (n ad (n (aV P) gX (f b1)) (n ab (f ct) (f ab))))))) (n (boot_o_2 P) (n (boot_o_4 P) (n (boot_o_8 P) (n ab (n an (n aa (n aa (f cV) z) (f b2)) (n a3 gX (f ab))) (n ao (n aa (n bw (f ab) z) (f b3)) (n aa (n b4 (f cW) z) (f aa)))) (n ap (n aq (n aP gX (f ab)) (n aa (n b5 (f dm) z) (f b6))) (n (ar P) (n aa (n aa (f cX) z) (f aa)) (n bh (n cu (f dp) z) (f ab))))) (n (l3 [(1,0,20),(5,0,27),(13,0,32),(18,0,39),(23,0,46),(34,0,53),(36,0,66),(38,0,78),(40,0,90),(42,0,102),(44,0,114),(46,0,126),(48,0,138),(50,0,150),(53,0,162),(60,0,183),(68,0,202),(74,0,207),(79,0,214),(88,0,221),(94,0,226),(101,0,231),(104,0,238),(114,0,245),(120,0,250),(136,0,257),(141,0,262),(156,0,269)]) (n au (n av (n aa (n bo (f ab) z) (f b7)) hd) (n ab (n aW (n aa (f cY) z) (f aa)) (n aa (n (cv P) (f cZ) z) (f c0)))) (n aw (n aa (n aa (n aa (f dr) z) (f aa)) (n a9 (n (bH P) (f ab) z) (f aa))) (n aF (n aa (n bI (f c1) z) (f cw)) gY)))) (n (boot_o_6 P) (n (boot_o_10 P) (n aa (n aa (n aQ (n bi (f cx) z) (f b8)) (n ac (n b9 (f c2) z) (f ca))) (n (aG P) (n aR (n ac (f aa) z) (f ab)) (n bj (n aa (f c3) z) (f cy)))) (n aH (n ab (n ac (n bx (f (dv P)) z) (f cb)) (n a4 (n bJ (f c4) z) (f ab))) (n ax (n a5 (n bz (f dw) z) (f cc)) (n ac (f ab) (f cz))))) (n af (n aa (n aI (n aJ (n ac (f cA) z) (f cB)) (n ba (n bK (f c5) z) (f cC))) (n aK (n ac (n bL (f aa) z) (f cd)) (n bc (n cD (f c6) z) (f cE)))) (n ab (n ay (n aX (n bp (f dy) z) (f cF)) (n ac (n bM (f aa) z) (f cG))) (n ac (n aY (n ac (f ab) z) (f ce)) (n bq (f cf) (f cH)))))))
theorem te5343743199570699569:tw5343743199570699569=tw5343743199570699569:=rfl
def tw5939038376531705394:Params→BT:=fun P=>n (boot_o_0 P) (n (boot_o_1 P) (n (gD P) (n (boot_o_7 P) (n aa (n az (f (aL P)) (f aZ)) (n ag (f aS) (f (bd P)))) (n ab (n ah (f aM) (f a6)) (n aa (f (a0 P)) (f be)))) (n aa (n aA (n ab (f aN) (f (a7 P))) (n aa (f aT) (f bf))) (n ai (n aj (f (aU P)) (f a8)) (n aB (f a1) z)))) (n (boot_o_5 P) (n (boot_o_9 P) (n ak (n al (f ab) (f ad)) (n ac (f (aO P)) (f ab))) (n aa (n aa (f ad) (f (a2 P))) (n (ty (cl (S "PatchError") [(w "ValueError")] [(r 57),(w "ValueError"),(w "Exception"),(w "BaseException"),(w "object")] 56 (S "PatchError") true [] [(r 70),(r 82),(r 94),(r 106),(r 118)] false none false) [(k (r 48)),none,(k (v "PatchError" 238)),(k (v "PatchError" 246)),(k (b "ValueError.__new__")),(k (vl true))]) (f ab) z))) (n ae (hD P) (n aa (n aE (f ab) (f ad)) (n ad (f (aV P)) z))))) (n (boot_o_2 P) (n (boot_o_4 P) (n (boot_o_8 P) (n ab (n an (f aa) (f a3)) (n ao (f aa) (f aa))) (n ap (n aq (f aP) (f aa)) (n (ar P) (f aa) (f bh)))) (n (l3 [(1,0,20),(5,0,27),(13,0,32),(18,0,39),(23,0,46),(34,0,53),(36,0,66),(38,0,78),(40,0,90),(42,0,102),(44,0,114)]) (n au (n av (f aa) (f aa)) (n ab (f aW) (f aa))) gU)) (n (boot_o_6 P) (n (boot_o_10 P) (n aa (n aa (f aQ) (f ac)) (n (aG P) (f aR) (f bj))) gV) (n af hG (n ab (n ay (f aX) (f ac)) (n ac (f aY) z)))))
theorem te5939038376531705394:tw5939038376531705394=tw5939038376531705394:=rfl
def tw13715806243749844083:Params→BT:=fun P=>n (boot_o_0 P) (n (boot_o_1 P) (n (gG P) (n (boot_o_7 P) (hI P) (n ab (n ah (n aM (f (bs P)) z) (f a6)) (n aa (n (a0 P) (f bB) z) (f be)))) (n aa (n aA (n ab (n aN (f bl) z) (f (a7 P))) (n aa (n aT (f (bC P)) z) (f bf))) (n ai (n aj (n (aU P) (f bt) z) (f a8)) (n aB (n a1 (f bE) z) (f (bm P)))))) (n (boot_o_5 P) (n (boot_o_9 P) (n ak (n al (n ab (f (bg P)) z) (f ad)) (n ac (n (aO P) (f ad) z) (f ab))) (n aa (n aa (n ad (f ab) z) (f (a2 P))) (n bu (n ab (f (bv P)) z) (f ad)))) (n ae (n am (n aa (n (aC P) (f ad) z) (f ab)) (n aD (n ad (f ab) z) (f (bb P)))) (hJ P)))) (n (boot_o_2 P) (n (boot_o_4 P) (n (boot_o_8 P) hK (n ap (n aq (n aP (f aa) z) (f aa)) (n (ar P) gX (f bh)))) (n (l3 [(1,0,20),(5,0,27),(13,0,32),(18,0,39),(23,0,46),(34,0,53),(36,0,66),(38,0,78),(40,0,90),(42,0,102),(44,0,114),(46,0,126),(48,0,138),(50,0,150)]) (n au (n av (n aa (f bo) z) (f aa)) (n ab (n aW (f aa) z) (f aa))) (n aw (n aa gX (f a9)) (n aF (n aa (f bI) z) (f aa))))) (n (boot_o_6 P) (n (boot_o_10 P) (n aa (n aa (n aQ (f bi) z) (f ac)) (n (aG P) (n aR (f ac) z) (f bj))) (n aH (n ab (n ac (f bx) z) (f a4)) (n ax (n a5 (f bz) z) (f ac)))) (n af (n aa (n aI (n aJ (f ac) z) (f ba)) (n aK (n ac (f bL) z) (f bc))) hL)))
theorem te13715806243749844083:tw13715806243749844083=tw13715806243749844083:=rfl
def tw7642245202839699795:Params→BT:=fun P=>n (boot_o_0 P) (n (boot_o_1 P) (n (gI P) (n (boot_o_7 P) (n aa (n az (f (aL P)) z) (f ag)) (n ab (n ah (f aM) z) (f aa))) (n aa (n aA (n ab (f aN) z) (f aa)) (n ai (f aj) (f aB)))) (n (boot_o_5 P) (n (boot_o_9 P) (n ak (n al (f ab) z) (f ac)) (n aa (f aa) (f (ty (cl (S "PatchError") [(w "ValueError")] [(r 57),(w "ValueError"),(w "Exception"),(w "BaseException"),(w "object")] 56 (S "PatchError") true [] [(r 70)] false none false) [(k (r 48)),none,(k (v "PatchError" 238)),(k (v "PatchError" 246)),(k (b "ValueError.__new__")),(k (vl true))])))) (n ae (n am (n aa (f (aC P)) z) (f aD)) (n aa (f aE) (f ad))))) (n (boot_o_2 P) (n (boot_o_4 P) (n (boot_o_8 P) (n ab (n an (f aa) z) (f ao)) (n ap (n aq (f aP) z) (f (ar P)))) (n (l3 [(1,0,20),(5,0,27),(13,0,32),(18,0,39),(23,0,46),(34,0,53),(36,0,66)]) (n au (n av (f aa) z) (f ab)) (n aw (f aa) (f aF)))) (n (boot_o_6 P) (n (boot_o_10 P) (n aa (n aa (f aQ) z) (f (aG P))) (n aH (f ab) (f ax))) (n af (n aa (n aI (f aJ) z) (f aK)) (n ab (f ay) (f ac)))))
theorem te7642245202839699795:tw7642245202839699795=tw7642245202839699795:=rfl
def tw11668435172420495156:Params→BT:=fun P=>n (boot_o_0 P) (n (boot_o_1 P) (n (gL P) (n (boot_o_7 P) (n aa (n az (n (aL P) (n bk (f aa) z) (f bN)) (n aZ (f (bO P)) (f aa))) (n ag (n aS (f br) (f bP)) (n (bd P) (f bA) (f cg)))) (n ab (n ah (n aM (n (bs P) (f ch) z) (f aa)) (n a6 (f aa) (f bQ))) (n aa (n (a0 P) (f bB) (f bR)) (n be (f ci) (f aa))))) (n aa (n aA (n ab (n aN (n bl (f aa) z) (f bS)) (n (a7 P) (f bT) (f bU))) (n aa (n aT (f (bC P)) (f bV)) (n bf (f ac) (f aa)))) (n ai (n aj (n (aU P) (f bt) (f bW)) (n a8 (f bD) (f cj))) (n aB (n a1 (f bE) (f aa)) (n (bm P) (f bX) (f ck)))))) (n (boot_o_5 P) (n (boot_o_9 P) (n ak (n al (n ab (n (bg P) (f cm) z) (f (bY P))) (n ad (f bZ) (f cn))) (n ac (n (aO P) (f ad) (f aa)) (n ab (f b0) (f ab)))) (n aa (n aa (n ad (f ab) (f cp)) (n (a2 P) (f bF) (f aa))) (n bu (n ab (f (bv P)) (f ab)) (n ad (f aa) (f cP))))) (n ae (n am (n aa (n (aC P) (n ad (f cQ) z) (f cq)) g0) (n aD (n ad (f ab) (f cr)) (n (bb P) (f aa) (f cs)))) (n aa (n aE (n ab (f (bn P)) (f ab)) (n ad (f bG) (f cU))) (n ad (n (aV P) (f aa) (f b1)) (n ab (f ct) (f ab))))))) (n (boot_o_2 P) (n (boot_o_4 P) (n (boot_o_8 P) (n ab (n an (n aa (n aa (f cV) z) (f b2)) (n a3 (f aa) (f ab))) (n ao (n aa (f bw) (f b3)) (n aa (f b4) (f aa)))) (n ap g3 (n (ar P) gY (n bh (f cu) (f ab))))) (n (l3 [(1,0,20),(5,0,27),(13,0,32),(18,0,39),(23,0,46),(34,0,53),(36,0,66),(38,0,78),(40,0,90),(42,0,102),(44,0,114),(46,0,126),(48,0,138),(50,0,150),(53,0,162),(60,0,183),(68,0,202),(74,0,207),(79,0,214),(88,0,221),(94,0,226),(101,0,231),(104,0,238),(114,0,245),(120,0,250),(136,0,257),(141,0,262)]) (n au (n av (n aa (n bo (f ab) z) (f b7)) gY) (n ab (n aW (f aa) (f aa)) (n aa (f (cv P)) (f c0)))) (n aw (n aa gY (n a9 (f (bH P)) (f aa))) (n aF (n aa (f bI) (f cw)) gY)))) (n (boot_o_6 P) (n (boot_o_10 P) (n aa (n aa (n aQ (n bi (f cx) z) (f b8)) (n ac (f b9) (f ca))) (n (aG P) (n aR (f ac) (f ab)) (n bj (f aa) (f cy)))) (n aH (n ab (n ac (f bx) (f cb)) (n a4 (f bJ) (f ab))) (n ax (n a5 (f bz) (f cc)) (n ac (f ab) (f cz))))) (n af (n aa (n aI (n aJ (n ac (f cA) z) (f cB)) (n ba (f bK) (f cC))) (n aK (n ac (f bL) (f cd)) (n bc (f cD) (f cE)))) (n ab (n ay (n aX (f bp) (f cF)) (n ac (f bM) (f cG))) (n ac (n aY (f ac) (f ce)) (n bq (f cf) (f cH)))))))
theorem te11668435172420495156:tw11668435172420495156=tw11668435172420495156:=rfl
def tw15589269465444623991:Params→BT:=fun P=>n (boot_o_0 P) (n (boot_o_1 P) (n (boot_o_3 P) (f (boot_o_7 P)) (f aa)) (n (boot_o_5 P) (f (boot_o_9 P)) (f ae))) (n (boot_o_2 P) (n (boot_o_4 P) (f (boot_o_8 P)) (f ab)) (n (boot_o_6 P) (f (boot_o_10 P)) (f af)))
theorem te15589269465444623991:tw15589269465444623991=tw15589269465444623991:=rfl
def tw16795399244656794777:Params→BT:=fun P=>n (boot_o_0 P) (n (boot_o_1 P) (n (gN P) (n (boot_o_7 P) (n aa (f az) (f ag)) (n ab (f ah) (f aa))) (n aa (n aA (f ab) (f aa)) (n ai (f aj) (f aB)))) (n (boot_o_5 P) (n (boot_o_9 P) (n ak (f al) (f ac)) (n aa (f aa) (f (ty (cl (S "PatchError") [(w "ValueError")] [(r 57),(w "ValueError"),(w "Exception"),(w "BaseException"),(w "object")] 56 (S "PatchError") true [] [] false none false) [(k (r 48)),none,(k (v "PatchError" 238)),(k (v "PatchError" 246)),(k (b "ValueError.__new__")),(k (vl true))])))) (n ae (n am (f aa) (f aD)) (n aa (f aE) z)))) (n (boot_o_2 P) (n (boot_o_4 P) (n (boot_o_8 P) (n ab (f an) (f ao)) (n ap (f aq) (f (ar P)))) (n (l3 [(1,0,20),(5,0,27),(13,0,32),(18,0,39),(23,0,46),(34,0,53)]) (n au (f av) (f ab)) (n aw (f aa) (f aF)))) (n (boot_o_6 P) (n (boot_o_10 P) (n aa (f aa) (f (aG P))) (n aH (f ab) (f ax))) (n af (n aa (f aI) (f aK)) (n ab (f ay) z))))
theorem te16795399244656794777:tw16795399244656794777=tw16795399244656794777:=rfl
def tw15508382644897084633:Params→BT:=fun P=>n (boot_o_0 P) (n (boot_o_1 P) (n (gQ P) (n (boot_o_7 P) (n aa (n az (f (aL P)) (f aZ)) (n ag (f aS) z)) (n ab (n ah (f aM) z) (n aa (f (a0 P)) z))) (n aa hM (n ai (n aj (f (aU P)) z) (n aB (f a1) z)))) (n (boot_o_5 P) (n (boot_o_9 P) (n ak (n al (f ab) z) (n ac (f (aO P)) z)) (n aa (n aa (f ad) z) (n (ty (cl (S "PatchError") [(w "ValueError")] [(r 57),(w "ValueError"),(w "Exception"),(w "BaseException"),(w "object")] 56 (S "PatchError") true [] [(r 70),(r 82),(r 94)] false none false) [(k (r 48)),none,(k (v "PatchError" 238)),(k (v "PatchError" 246)),(k (b "ValueError.__new__")),(k (vl true))]) (f ab) z))) (n ae (n am (n aa (f (aC P)) z) (n aD (f ad) z)) (n aa (n aE (f ab) z) (n ad (f (aV P)) z))))) (n (boot_o_2 P) (n (boot_o_4 P) (n (boot_o_8 P) gT (n ap (n aq (f aP) z) (n (ar P) (f aa) z))) (n (l3 [(1,0,20),(5,0,27),(13,0,32),(18,0,39),(23,0,46),(34,0,53),(36,0,66),(38,0,78),(40,0,90)]) hN (n aw gX (n aF (f aa) z)))) (n (boot_o_6 P) (n (boot_o_10 P) (n aa (n aa (f aQ) z) (n (aG P) (f aR) z)) (n aH hH (n ax (f a5) z))) (n af (n aa (n aI (f aJ) z) (n aK (f ac) z)) gW)))
theorem te15508382644897084633:tw15508382644897084633=tw15508382644897084633:=rfl
def tw15962179519436450508:Params→Heap:=fun P=>Heap.mk #[boot_o_0 P,boot_o_1 P,boot_o_2 P,fO P,boot_o_4 P,boot_o_5 P,boot_o_6 P,boot_o_7 P,boot_o_8 P,boot_o_9 P,boot_o_10 P,aa,gd,ae,af,aa,ab,ak,aa,aA,au,am,aa,ab,ap,aa,aH,ai,aw,aa,ab,az,an,al,aa,ab,av,aa,aI,ah,aq,aa,ab,aj,aa,aE,ay,ag,ao,ac,aG P,aa,ab,aD,aK,aa,ar P,bu,ax,aB,aF,ad,ac,aL P,aa,ab,aQ,aN,aa,aC P,aJ,aM,aP,ad,ac,aU P,aa,ab,aX,aS,aa,aO P,aR,aT,aW,ad,ac,a0 P,aa,ab,a5,a1,aa,aV P,aY,aZ,a3,ad,ac,a7 P,aa,ab,ba,a6,aa,a2 P,a4,a8,a9,ad,ac,bd P,aa,ab,bj,bf,aa,bb P,bc,be,bh,ad,ac,bm P,aa,ab,bq,bk,aa,bg P,bi,bl,bo,ad,ac,bs P,aa,ab,bx,bt,aa,bn P,bp,br,bw,ad,ac,bC P,aa,ab,bL,bB,aa,bv P,bz,bE,bI,aa,ac,bO P,aa,bZ,b9,bT,aa,ab,bK,aa,b5,bF,bJ,bD,bH P,bG,bM,bA,b4,b0,aa,ac,cv P,aa,cD,ci,cu,aa,ab,bX,aa,ct,cf,bN,b2,bY P,b8,bS,b7,cq,cB,aa,ab,cp,cb,bW,aa,ab,cF,bP,b3,aa,ab,bV,aa,cr,cd,bR,aa,ab,cc,aa,cw,b1,ce,aa,ab,cn,ca,bU,aa,ab,cC,bQ,b6,aa,ab,cj,aa,cU,cG,cg,aa,ab,cy,aa,c0,cs,cE,aa,ab,cP,cz,ck,aa,ab,cH,aa,cV,cm,cx,aa,ab,cQ,cA,ch,aa,ac,dv P,aa,dr,dj,dy,aa,ab,cM,aa,da,cY,cR,aa,ab,cX,aa,dw,cL,c1,aa,ab,cI,aa,df,c2,cJ,aa,ab,c5,aa,dm,cO,c4,aa,ab,cT,aa,c8,cW,cN,c3,cK P,cZ,cS,c6,c9,dp,aa,ab,dc,aa,dQ,dz,c7,aa,ab,du,aa,dT,di,dx,aa,ab,dg,aa,dG,ds,dk,aa,ab,dl,aa,dY,db,dq,aa,ab,dC,dn,dh,aa,ac,fB P,aa,fN,ea,eg,aa,ab,dE,aa,ee,d4,dA,aa,ab,d0,aa,ek,dO,d7,aa,ab,dK,aa,eb,dU,dN,aa,ab,dS,aa,em,dH,dV,aa,ab,d9,dR,dI,aa,ab,ej,dM,d2,aa,ab,ed,dZ,dF,aa,ab,d6,aa,eh,dJ,dX,aa,ab,ef,d5,dB,aa,ab,d1,aa,el,dP,d8,aa,ab,ec,dW,dD,aa,ab,d3,aa,ei,dL,eS,aa,ab,eC,aa,e1,eH,ew,aa,ab,fz,eA,eV,aa,ab,ey,aa,fb,eQ,eE,aa,ab,eF,aa,fD,er,eL,aa,ab,e3,eI,ex,aa,ab,eO,aa,fM,en,eG,aa,ab,es,aa,fk,eU,ep,aa,ab,eT,aa,fC,eD,eX,aa,ab,ev,aa,e5,eM,ez,aa,ab,eJ,aa,fF,eu,eP,aa,ab,eo,aa,ff,eR,et,eN,eB P,eW,eq,eK,fh,fI,aa,ab,fo,aa,fP,fp,fc,aa,ab,fw,aa,f7,e2,ft,aa,ab,e8,aa,fX,fL,eZ,aa,ab,f5,e6,fy,aa,ab,e4,aa,fV,fG,fa,aa,ab,f8,eY,fs,aa,ab,fR,fx,fj,aa,ab,fu,aa,f6,e9,fA,aa,ab,e0,aa,fT,fE,e7,aa,ab,fK,aa,f1,fg,fH,aa,ab,fm,aa,fQ,fq,fe,aa,ab,f2,fi,fJ,aa,ab,fU,aa,gc,f4,fY,aa,ab,fZ,aa,ge,fS,f3,aa,ab,fv "law" "law" (x 55),f0,fW] (Life.mk [] [] [] 0 [] [] false #[] [] 0 false false false 0 [2000,10,10] false 0 true [] [] 0 false)
theorem te15962179519436450508:tw15962179519436450508=tw15962179519436450508:=rfl
def tw10573039595287156597:Params→Heap:=fun P=>Heap.mk #[boot_o_0 P,boot_o_1 P,boot_o_2 P,boot_o_3 P,boot_o_4 P,boot_o_5 P,boot_o_6 P,boot_o_7 P,boot_o_8 P,boot_o_9 P,boot_o_10 P,aa,ab,ae,af] (Life.mk [] [] [] 0 [] [] false #[] [] 0 false false false 0 [2000,10,10] false 0 true [] [] 0 false)
theorem te10573039595287156597:tw10573039595287156597=tw10573039595287156597:=rfl
def tw5197098878563955245:Params→Frag:=fun P=>[(2,boot_o_2 P),(3,fO P),(15,aa),(17,ak),(18,aa),(20,au),(21,am),(22,aa),(24,ap),(25,aa),(27,ai),(28,aw),(29,aa),(32,an),(33,al),(34,aa),(36,av),(37,aa),(39,ah),(40,aq),(41,aa),(43,aj),(44,aa),(46,ay),(47,ag),(48,ao),(55,aa),(56,ar P),(57,bu),(58,ax),(61,ad),(68,aa),(69,aC P),(70,aJ),(73,ad),(80,aa),(81,aO P),(82,aR),(85,ad),(92,aa),(93,aV P),(94,aY),(97,ad),(104,aa),(105,a2 P),(106,a4),(109,ad),(116,aa),(117,bb P),(118,bc),(121,ad),(128,aa),(129,bg P),(130,bi),(133,ad),(140,aa),(141,bn P),(142,bp),(145,ad),(152,aa),(153,bv P),(154,bz),(164,aa),(166,bK),(167,aa),(169,bF),(170,bJ),(171,bD),(172,bH P),(173,bG),(174,bM),(175,bA),(185,aa),(187,bX),(188,aa),(190,cf),(191,bN),(192,b2),(193,bY P),(194,b8),(195,bS),(196,b7),(199,aa),(202,cb),(203,bW),(204,aa),(207,bP),(208,b3),(209,aa),(211,bV),(212,aa),(214,cd),(215,bR),(216,aa),(218,cc),(219,aa),(221,b1),(222,ce),(223,aa),(226,ca),(227,bU),(228,aa),(231,bQ),(232,b6),(233,aa),(235,cj),(236,aa),(238,cG),(239,cg),(240,aa),(242,cy),(243,aa),(245,cs),(246,cE),(247,aa),(250,cz),(251,ck),(252,aa),(254,cH),(255,aa),(257,cm),(258,cx),(259,aa),(262,cA),(263,ch),(271,aa),(273,cM),(274,aa),(276,cY),(277,cR),(278,aa),(280,cX),(281,aa),(283,cL),(284,c1),(285,aa),(287,cI),(288,aa),(290,c2),(291,cJ),(292,aa),(294,c5),(295,aa),(297,cO),(298,c4),(299,aa),(301,cT),(302,aa),(304,cW),(305,cN),(306,c3),(307,cK P),(308,cZ),(309,cS),(310,c6),(313,aa),(315,dc),(316,aa),(318,dz),(319,c7),(320,aa),(322,du),(323,aa),(325,di),(326,dx),(327,aa),(329,dg),(330,aa),(332,ds),(333,dk),(334,aa),(336,dl),(337,aa),(339,db),(340,dq),(341,aa),(344,dn),(345,dh),(353,aa),(355,dE),(356,aa),(358,d4),(359,dA),(360,aa),(362,d0),(363,aa),(365,dO),(366,d7),(367,aa),(369,dK),(370,aa),(372,dU),(373,dN),(374,aa),(376,dS),(377,aa),(379,dH),(380,dV),(381,aa),(384,dR),(385,dI),(386,aa),(389,dM),(390,d2),(391,aa),(394,dZ),(395,dF),(396,aa),(398,d6),(399,aa),(401,dJ),(402,dX),(403,aa),(406,d5),(407,dB),(408,aa),(410,d1),(411,aa),(413,dP),(414,d8),(415,aa),(418,dW),(419,dD),(420,aa),(422,d3),(423,aa),(425,dL),(426,eS),(427,aa),(429,eC),(430,aa),(432,eH),(433,ew),(434,aa),(437,eA),(438,eV),(439,aa),(441,ey),(442,aa),(444,eQ),(445,eE),(446,aa),(448,eF),(449,aa),(451,er),(452,eL),(453,aa),(456,eI),(457,ex),(458,aa),(460,eO),(461,aa),(463,en),(464,eG),(465,aa),(467,es),(468,aa),(470,eU),(471,ep),(472,aa),(474,eT),(475,aa),(477,eD),(478,eX),(479,aa),(481,ev),(482,aa),(484,eM),(485,ez),(486,aa),(488,eJ),(489,aa),(491,eu),(492,eP),(493,aa),(495,eo),(496,aa),(498,eR),(499,et),(500,eN),(501,eB P),(502,eW),(503,eq),(504,eK),(507,aa),(509,fo),(510,aa),(512,fp),(513,fc),(514,aa),(516,fw),(517,aa),(519,e2),(520,ft),(521,aa),(523,e8),(524,aa),(526,fL),(527,eZ),(528,aa),(531,e6),(532,fy),(533,aa),(535,e4),(536,aa),(538,fG),(539,fa),(540,aa),(543,eY),(544,fs),(545,aa),(548,fx),(549,fj),(550,aa),(552,fu),(553,aa),(555,e9),(556,fA),(557,aa),(559,e0),(560,aa),(562,fE),(563,e7),(564,aa),(566,fK),(567,aa),(569,fg),(570,fH),(571,aa),(573,fm),(574,aa),(576,fq),(577,fe),(578,aa),(581,fi),(582,fJ),(583,aa),(585,fU),(586,aa),(588,f4),(589,fY),(590,aa),(592,fZ),(593,aa),(595,fS),(596,f3),(597,aa),(600,f0),(601,fW)]
theorem te5197098878563955245:tw5197098878563955245=tw5197098878563955245:=rfl
def tw16929742798162826337:List Stmt:=[x 15,x 16]
theorem te16929742798162826337:tw16929742798162826337=tw16929742798162826337:=rfl
def tw11758736010548093666:List Stmt:=[x 40,x 41,x 42,x 43,x 44,x 45,x 46,x 47,x 48,x 49,x 50,x 51,x 52]
theorem te11758736010548093666:tw11758736010548093666=tw11758736010548093666:=rfl
def tw10844944468946546594:List Stmt:=[x 53,x 54,x 55]
theorem te10844944468946546594:tw10844944468946546594=tw10844944468946546594:=rfl
def tw15860378883713051747:List Stmt:=[x 34,x 35,x 36,x 37,x 38]
theorem te15860378883713051747:tw15860378883713051747=tw15860378883713051747:=rfl
def tw12942447227509135592:List Stmt:=[x 9]
theorem te12942447227509135592:tw12942447227509135592=tw12942447227509135592:=rfl
def tw15597963749743896012:List Stmt:=[x 30,x 31,x 32,x 33]
theorem te15597963749743896012:tw15597963749743896012=tw15597963749743896012:=rfl
def tw17232200279327621100:List Stmt:=[x 0,x 1,x 2,x 3,x 4,x 5,x 6,x 7]
theorem te17232200279327621100:tw17232200279327621100=tw17232200279327621100:=rfl
def tw12994317700821501933:List Stmt:=[x 11]
theorem te12994317700821501933:tw12994317700821501933=tw12994317700821501933:=rfl
def tw16026651884919907566:List Stmt:=[x 17]
theorem te16026651884919907566:tw16026651884919907566=tw16026651884919907566:=rfl
def tw10239707890383446162:List Stmt:=[x 10]
theorem te10239707890383446162:tw10239707890383446162=tw10239707890383446162:=rfl
def tw5645780007617545682:List Stmt:=[x 14]
theorem te5645780007617545682:tw5645780007617545682=tw5645780007617545682:=rfl
def tw6153764579161379794:List Stmt:=[x 12]
theorem te6153764579161379794:tw6153764579161379794=tw6153764579161379794:=rfl
def tw5045196426146436851:List Stmt:=[x 8]
theorem te5045196426146436851:tw5045196426146436851=tw5045196426146436851:=rfl
def tw14326063709468398938:List Stmt:=[x 13]
theorem te14326063709468398938:tw14326063709468398938=tw14326063709468398938:=rfl
def tw6468949491574731514:List Stmt:=[x 39]
theorem te6468949491574731514:tw6468949491574731514=tw6468949491574731514:=rfl
def tw2979122547204679166:List Stmt:=[x 18,x 19,x 20,x 21,x 22,x 23,x 24]
theorem te2979122547204679166:tw2979122547204679166=tw2979122547204679166:=rfl
def tw11712722344659725119:List Stmt:=[x 25,x 26,x 27,x 28,x 29]
theorem te11712722344659725119:tw11712722344659725119=tw11712722344659725119:=rfl
def tw6998767052198309800:Program:={PySem.Challenge.pw_patchkin_k09_whole_any_order with main:={PySem.Challenge.pw_patchkin_k09_whole_any_order.main with body:=[x 0,x 2,x 3,x 4,x 5,x 7,x 8,x 9,x 10,x 11,x 12,x 13,x 14,x 15,x 17,x 18,x 19,x 20,x 21,x 22,x 23,x 24,x 25,x 26,x 27,x 28,x 29,x 30,x 32,x 33,x 34,x 35,x 36,x 37,x 38,x 39,x 41,x 42,x 43,x 44,x 45,x 46,x 47,x 48,x 49,x 50,x 51,x 52,x 53,x 54,x 55]}}
theorem te6998767052198309800:tw6998767052198309800=tw6998767052198309800:=rfl
end
end PySem.W.Fast
namespace PK
open PySem L2
theorem all_mk{l:W.OpenLaw}{w:World}{K:Qqy}{h:Heap}{mg:Qqx}{fa f0 f1 f2 f3 f4 f5 f6 f7 f8 f9 f10 f11 f12 f13 f14 f15 f16 f17 f18 f19 f20 f21 f22 f23 f24 f25 f26 f27 f28 f29 f30 f31 f32 f33 f34 f35 f36 f37 f38 f39 f40 f41 f42 f43 f44 f45 f46 f47 f48 f49 f50 f51 f52 f53 f54 f55 f56 f57 f58 f59 f60 gJ gP h_ gr lO jA ju iQ jR n4 lg uk sX:Addr}{nA lP:Tok}(X:K.In h)(G:h.Ns mainGlobals mg)(hfa:mg "law"=some (.ref fa))
  (CZ:W.nsIn K mainGlobals "Line"=some (some (.ref gJ)))
  (Am:W.nsIn K mainGlobals "Patch"=some (some (.ref gP)))
  (An:W.nsIn K mainGlobals "Sight"=some (some (.ref h_)))
  (C0:W.nsIn K mainGlobals "Desk"=some (some (.ref gr)))
  (h0:FI K "counts_with" o4 f0)
  (h1:FI K "most_pairs" qj f1)
  (h2:FI K "place_from" qk f2)
  (h3:FI K "kept" Fz f3)
  (h4:FI K "lines_named_by" kF f4)
  (h5:FI K "leans_straight_on" jN f5)
  (h6:FI K "live_patches" nO f6)
  (h7:FI K "lines_put" rF f7)
  (h8:FI K "standing_lines" kG f8)
  (h9:FI K "files_with_lines" nP f9)
  (Uv:FI K "straight_ahead" l8 f10)
  (S3:FI K "joined" zB f11)
  (XH:FI K "all_ahead" oC f12)
  (XI:FI K "first_free" ql f13)
  (XJ:FI K "row_of" uY f14)
  (XM:FI K "check_name" qm f15)
  (XN:FI K "check_places" nQ f16)
  (XO:FI K "kept_behind" o5 f17)
  (XQ:FI K "new_lines" rG f18)
  (XR:FI K "changing_patch" jQ f19)
  (Uw:FI K "_law_cell_at" nS f20)
  (S4:FI K "_law_draw" rL f21)
  (XT:FI K "_law_name" rM f22)
  (XU:FI K "_law_text" oF f23)
  (XW:FI K "_law_edit" rN f24)
  (XX:FI K "_law_deed" oG f25)
  (XY:FI K "_law_desk" mH f26)
  (XZ:FI K "_law_whole" qu f27)
  (X0:FI K "_law_row_form" mV f28)
  (X_:FI K "_law_pairs_form" lJ f29)
  (Ya:FI K "_law_names_are" me f30)
  (Yb:FI K "_law_seen" oH f31)
  (Yc:FI K "_law_mixed" qv f32)
  (Yd:FI K "_law_takes_all" mf f33)
  (Ye:FI K "law" D1 f34)
  (Yf:MI K gJ "__init__" "Line.__init__" mR f35)
  (Yg:MI K gP "__init__" "Patch.__init__" l7 f36)
  (Yh:MI K h_ "__init__" "Sight.__init__" l9 f37)
  (Yi:MI K h_ "is_ahead" "Sight.is_ahead" l_ f38)
  (Yj:MI K h_ "quarrelling" "Sight.quarrelling" kL f39)
  (Ux:MI K gr "__init__" "Desk.__init__" mS f40)
  (S6:MI K gr "begin" "Desk.begin" qo f41)
  (Yk:MI K gr "stores" "Desk.stores" tK f42)
  (Yl:MI K gr "patches" "Desk.patches" nR f43)
  (Ym:MI K gr "has" "Desk.has" qp f44)
  (Yn:MI K gr "record" "Desk.record" my f45)
  (Yo:MI K gr "cut" "Desk.cut" qr f46)
  (Yp:MI K gr "back" "Desk.back" rH f47)
  (Yq:MI K gr "take" "Desk.take" oE f48)
  (Yr:MI K gr "drop" "Desk.drop" rJ f49)
  (Uy:MI K gr "leans" "Desk.leans" nz f50)
  (S8:MI K gr "files" "Desk.files" uZ f51)
  (Ys:MI K gr "row" "Desk.row" qt f52)
  (Yt:MI K gr "quarrels" "Desk.quarrels" mT f53)
  (Yu:MI K gr "patches_of" "Desk.patches_of" ki f54)
  (Yv:MI K gr "sight_of" "Desk.sight_of" mU f55)
  (NB:MI K gr "check_store" "Desk.check_store" kZ f56)
  (Yw:MI K gr "check_made" "Desk.check_made" lH f57)
  (Yx:MI K gr "check_held" "Desk.check_held" lI f58)
  (Yy:MI K gr "check_new" "Desk.check_new" ma f59)
  (Yz:MI K gr "keep" "Desk.keep" rK f60)
  (C1:W.plainGet K gJ Str.empty=true)
  (C2:W.hasDictIn K gJ=true)
  (C3:W.plainOver K gJ=true)
  (C4:W.findIn K (.ref gJ) "__setattr__"=some (some (.builtin "object.__setattr__")))
  (C5:W.makesIn K gJ=true)
  (C6:W.keepIn K (.ref gJ)=true)
  (gH:W.findIn K (.ref gJ) "name"=some none)
  (jG:W.findIn K (.ref gJ) "text"=some none)
  (iD:W.findIn K (.ref gJ) "upper_name"=some none)
  (iE:W.findIn K (.ref gJ) "lower_name"=some none)
  (Ao:W.plainGet K gP Str.empty=true)
  (Ap:W.hasDictIn K gP=true)
  (Aq:W.plainOver K gP=true)
  (Ar:W.findIn K (.ref gP) "__setattr__"=some (some (.builtin "object.__setattr__")))
  (As:W.makesIn K gP=true)
  (Au:W.keepIn K (.ref gP)=true)
  (iW:W.findIn K (.ref gP) "name"=some none)
  (j9:W.findIn K (.ref gP) "file"=some none)
  (jK:W.findIn K (.ref gP) "puts"=some none)
  (jL:W.findIn K (.ref gP) "cuts"=some none)
  (iY:W.findIn K (.ref gP) "other"=some none)
  (Av:W.plainGet K h_ Str.empty=true)
  (Aw:W.hasDictIn K h_=true)
  (Ax:W.plainOver K h_=true)
  (Ay:W.findIn K (.ref h_) "__setattr__"=some (some (.builtin "object.__setattr__")))
  (Az:W.makesIn K h_=true)
  (AA:W.keepIn K (.ref h_)=true)
  (jw:W.findIn K (.ref h_) "ahead"=some none)
  (ip:W.findIn K (.ref h_) "lines"=some none)
  (C7:W.plainGet K gr Str.empty=true)
  (C8:W.hasDictIn K gr=true)
  (C9:W.plainOver K gr=true)
  (C_:W.findIn K (.ref gr) "__setattr__"=some (some (.builtin "object.__setattr__")))
  (Dc:W.makesIn K gr=true)
  (Dd:W.keepIn K (.ref gr)=true)
  (iO:W.findIn K (.ref gr) "made"=some none)
  (jd:W.findIn K (.ref gr) "needs"=some none)
  (iw:W.findIn K (.ref gr) "held"=some none)
  (pf:W.nsIn K mainGlobals "PatchError"=some (some (.ref lO)))
  (uA:W.nsIn K mainGlobals "BadName"=some (some (.ref jA)))
  (qI:W.nsIn K mainGlobals "NameTaken"=some (some (.ref ju)))
  (uB:W.nsIn K mainGlobals "NoStore"=some (some (.ref iQ)))
  (uC:W.nsIn K mainGlobals "NoPatch"=some (some (.ref jR)))
  (xm:W.nsIn K mainGlobals "NoLine"=some (some (.ref n4)))
  (qJ:W.nsIn K mainGlobals "Unsettled"=some (some (.ref lg)))
  (De:W.nsIn K mainGlobals "Same"=some (some (.ref uk)))
  (AB:W.nsIn K mainGlobals "Leant"=some (some (.ref sX)))
  (ph:W.nsIn K mainGlobals "NAME_SIGNS"=some (some (.str (Str.ofString "abcdefghijklmnopqrstuvwxyz0123456789") nA)))
  (m_:W.nsIn K mainGlobals "LONGEST_NAME"=some (some (.int 12 lP)))
  (KZ:W.nsIn K mainGlobals "len"=some none)
  (Df:W.nsIn K mainGlobals "range"=some none)
  (K0:W.nsIn K mainGlobals "max"=some none)
  (qK:W.nsIn K mainGlobals "isinstance"=some none)
  (K1:W.nsIn K mainGlobals "int"=some none)
  (Gi:W.nsIn K mainGlobals "bool"=some none)
  (Gj:W.nsIn K mainGlobals "list"=some none)
  (Dg:W.nsIn K mainGlobals "tuple"=some none)
  (K2:W.nsIn K mainGlobals "str"=some none)
  (uD:W.nsIn K mainGlobals "reversed"=some none)
  (AD:W.nsIn K mainGlobals "sorted"=some none)
  (K3:W.nsIn K mainGlobals "set"=some none)
  (sP:W.nsIn K mainGlobals "enumerate"=some none)
  (qL:W.nsIn K mainGlobals "ValueError"=some none)
  (pj:W.excIn K lO [.type "ValueError",.type "Exception",.type "BaseException",.type "object"] "ValueError.__new__"=true)
  (uE:W.excIn K jA [.type "ValueError",.type "Exception",.type "BaseException",.type "object"] "ValueError.__new__"=true)
  (qM:W.excIn K ju [.type "ValueError",.type "Exception",.type "BaseException",.type "object"] "ValueError.__new__"=true)
  (uF:W.excIn K iQ [.type "ValueError",.type "Exception",.type "BaseException",.type "object"] "ValueError.__new__"=true)
  (uG:W.excIn K jR [.type "ValueError",.type "Exception",.type "BaseException",.type "object"] "ValueError.__new__"=true)
  (xn:W.excIn K n4 [.type "ValueError",.type "Exception",.type "BaseException",.type "object"] "ValueError.__new__"=true)
  (qN:W.excIn K lg [.type "ValueError",.type "Exception",.type "BaseException",.type "object"] "ValueError.__new__"=true)
  (Dh:W.excIn K uk [.type "ValueError",.type "Exception",.type "BaseException",.type "object"] "ValueError.__new__"=true)
  (AE:W.excIn K sX [.type "ValueError",.type "Exception",.type "BaseException",.type "object"] "ValueError.__new__"=true) :
  ∃fd:FuncData,(∀(s:Shared)(v:Value),BindsTo s fd ⟨[v],[]⟩ [("script",v)])∧∀base:Heap,K.In base→base.Ns mainGlobals mg→ij l.prog w K mg base l5 20 fa fd ["script"] (G1 K):=by
 obtain⟨m0,d0,F0⟩:=h0
 obtain⟨m1,d1,F1⟩:=h1
 obtain⟨m2,d2,F2⟩:=h2
 obtain⟨m3,d3,F3⟩:=h3
 obtain⟨m4,d4,F4⟩:=h4
 obtain⟨m5,d5,F5⟩:=h5
 obtain⟨m6,d6,F6⟩:=h6
 obtain⟨m7,d7,F7⟩:=h7
 obtain⟨m8,d8,F8⟩:=h8
 obtain⟨m9,d9,F9⟩:=h9
 obtain⟨m10,d10,F10⟩:=Uv
 obtain⟨m11,d11,F11⟩:=S3
 obtain⟨m12,d12,F12⟩:=XH
 obtain⟨m13,d13,F13⟩:=XI
 obtain⟨m14,d14,F14⟩:=XJ
 obtain⟨m15,d15,F15⟩:=XM
 obtain⟨m16,d16,F16⟩:=XN
 obtain⟨m17,d17,F17⟩:=XO
 obtain⟨m18,d18,F18⟩:=XQ
 obtain⟨m19,d19,F19⟩:=XR
 obtain⟨m20,d20,F20⟩:=Uw
 obtain⟨m21,d21,F21⟩:=S4
 obtain⟨m22,d22,F22⟩:=XT
 obtain⟨m23,d23,F23⟩:=XU
 obtain⟨m24,d24,F24⟩:=XW
 obtain⟨m25,d25,F25⟩:=XX
 obtain⟨m26,d26,F26⟩:=XY
 obtain⟨m27,d27,F27⟩:=XZ
 obtain⟨m28,d28,F28⟩:=X0
 obtain⟨m29,d29,F29⟩:=X_
 obtain⟨m30,d30,F30⟩:=Ya
 obtain⟨m31,d31,F31⟩:=Yb
 obtain⟨m32,d32,F32⟩:=Yc
 obtain⟨m33,d33,F33⟩:=Yd
 obtain⟨m34,d34,F34⟩:=Ye
 obtain⟨YA,d35,F35⟩:=Yf
 obtain⟨YB,d36,F36⟩:=Yg
 obtain⟨YC,d37,F37⟩:=Yh
 obtain⟨m38,d38,F38⟩:=Yi
 obtain⟨m39,d39,F39⟩:=Yj
 obtain⟨YD,d40,F40⟩:=Ux
 obtain⟨m41,d41,F41⟩:=S6
 obtain⟨m42,d42,F42⟩:=Yk
 obtain⟨m43,d43,F43⟩:=Yl
 obtain⟨m44,d44,F44⟩:=Ym
 obtain⟨m45,d45,F45⟩:=Yn
 obtain⟨m46,d46,F46⟩:=Yo
 obtain⟨m47,d47,F47⟩:=Yp
 obtain⟨m48,d48,F48⟩:=Yq
 obtain⟨m49,d49,F49⟩:=Yr
 obtain⟨m50,d50,F50⟩:=Uy
 obtain⟨m51,d51,F51⟩:=S8
 obtain⟨m52,d52,F52⟩:=Ys
 obtain⟨m53,d53,F53⟩:=Yt
 obtain⟨m54,d54,F54⟩:=Yu
 obtain⟨m55,d55,F55⟩:=Yv
 obtain⟨m56,d56,F56⟩:=NB
 obtain⟨m57,d57,F57⟩:=Yw
 obtain⟨m58,d58,F58⟩:=Yx
 obtain⟨m59,d59,F59⟩:=Yy
 obtain⟨m60,d60,F60⟩:=Yz
 have e:=hfa.symm.trans (aah X G m34)
 cases e
 have T:Txt mg:=⟨aaS X G KZ,aaS X G Df,aaS X G K0,aaS X G qK,aaS X G K1,aaS X G Gi,aaS X G Gj,aaS X G Dg,aaS X G K2,aaS X G uD,aaS X G AD,aaS X G K3,aaS X G sP,aaS X G qL⟩
 have O:Ok K mg (Ad.mk f0 d0 f1 d1 f2 d2 f3 d3 f35 d35 f36 d36 f4 d4 f5 d5 f6 d6 f7 d7 f8 d8 f9 d9 f10 d10 f11 d11 f12 d12 f13 d13 f14 d14 f37 d37 f38 d38 f39 d39 f15 d15 f16 d16 f17 d17 f18 d18 f19 d19 f40 d40 f41 d41 f42 d42 f43 d43 f44 d44 f45 d45 f46 d46 f47 d47 f48 d48 f49 d49 f50 d50 f51 d51 f52 d52 f53 d53 f54 d54 f55 d55 f56 d56 f57 d57 f58 d58 f59 d59 f60 d60 f20 d20 f21 d21 f22 d22 f23 d23 f24 d24 f25 d25 f26 d26 f27 d27 f28 d28 f29 d29 f30 d30 f31 d31 f32 d32 f33 d33 gJ gP h_ gr lO jA ju iQ jR n4 lg uk sX nA lP ()):=⟨⟨F0,F0.bd,aah X G m0⟩,⟨F1,F1.bd,aah X G m1⟩,⟨F2,F2.bd,aah X G m2⟩,⟨F3,F3.bd,aah X G m3⟩,⟨F35,F35.bd,YA⟩,⟨F36,F36.bd,YB⟩,⟨F4,F4.bd,aah X G m4⟩,⟨F5,F5.bd,aah X G m5⟩,⟨F6,F6.bd,aah X G m6⟩,⟨F7,F7.bd,aah X G m7⟩,⟨F8,F8.bd,aah X G m8⟩,⟨F9,F9.bd,aah X G m9⟩,⟨F10,F10.bd,aah X G m10⟩,⟨F11,F11.bd,aah X G m11⟩,⟨F12,F12.bd,aah X G m12⟩,⟨F13,F13.bd,aah X G m13⟩,⟨F14,F14.bd,aah X G m14⟩,⟨F37,F37.bd,YC⟩,⟨F38,F38.bd,m38⟩,⟨F39,F39.bd,m39⟩,⟨F15,F15.bd,aah X G m15⟩,⟨F16,F16.bd,aah X G m16⟩,⟨F17,F17.bd,aah X G m17⟩,⟨F18,F18.bd,aah X G m18⟩,⟨F19,F19.bd,aah X G m19⟩,⟨F40,F40.bd,YD⟩,⟨F41,F41.bd,m41⟩,⟨F42,F42.bd,m42⟩,⟨F43,F43.bd,m43⟩,⟨F44,F44.bd,m44⟩,⟨F45,F45.bd,m45⟩,⟨F46,F46.bd,m46⟩,⟨F47,F47.bd,m47⟩,⟨F48,F48.bd,m48⟩,⟨F49,F49.bd,m49⟩,⟨F50,F50.bd,m50⟩,⟨F51,F51.bd,m51⟩,⟨F52,F52.bd,m52⟩,⟨F53,F53.bd,m53⟩,⟨F54,F54.bd,m54⟩,⟨F55,F55.bd,m55⟩,⟨F56,F56.bd,m56⟩,⟨F57,F57.bd,m57⟩,⟨F58,F58.bd,m58⟩,⟨F59,F59.bd,m59⟩,⟨F60,F60.bd,m60⟩,⟨F20,F20.bd,aah X G m20⟩,⟨F21,F21.bd,aah X G m21⟩,⟨F22,F22.bd,aah X G m22⟩,⟨F23,F23.bd,aah X G m23⟩,⟨F24,F24.bd,aah X G m24⟩,⟨F25,F25.bd,aah X G m25⟩,⟨F26,F26.bd,aah X G m26⟩,⟨F27,F27.bd,aah X G m27⟩,⟨F28,F28.bd,aah X G m28⟩,⟨F29,F29.bd,aah X G m29⟩,⟨F30,F30.bd,aah X G m30⟩,⟨F31,F31.bd,aah X G m31⟩,⟨F32,F32.bd,aah X G m32⟩,⟨F33,F33.bd,aah X G m33⟩,⟨C1,C2,C3,C4⟩,⟨C5,YA.at_,YA.fn,C6⟩,aah X G CZ,gH,jG,iD,iE,⟨Ao,Ap,Aq,Ar⟩,⟨As,YB.at_,YB.fn,Au⟩,aah X G Am,iW,j9,jK,jL,iY,⟨Av,Aw,Ax,Ay⟩,⟨Az,YC.at_,YC.fn,AA⟩,aah X G An,jw,ip,⟨C7,C8,C9,C_⟩,⟨Dc,YD.at_,YD.fn,Dd⟩,aah X G C0,iO,jd,iw,⟨aah X G pf,pj⟩,⟨aah X G uA,uE⟩,⟨aah X G qI,qM⟩,⟨aah X G uB,uF⟩,⟨aah X G uC,uG⟩,⟨aah X G xm,xn⟩,⟨aah X G qJ,qN⟩,⟨aah X G De,Dh⟩,⟨aah X G AB,AE⟩,aah X G ph,aah X G m_,True.intro⟩
 refine⟨d34,fun s v=>?_,fun base _ _=>Pa F34 T O⟩
 obtain⟨_,_,_,_,_,_,_,_,_,rfl,_,_⟩:=F34.ex
 exact .of_eq rfl
theorem walk{l:W.OpenLaw}{q:Program}{loose:List Str}{XP:(Qqx)→Heap→Prop}{YP:World→Heap→Prop}{d:DefRec}{K:Params→Qqy}(hn:l.most=some 63)(R4:d.params.defaults=[])
  (hY:∀(w:World)(h:Heap),YP w h→(K w.params).In h)
  (F:∀(w:World)(mg:Qqx)(fa:Addr)(h:Heap),(K w.params).In h→h.Ns mainGlobals mg→mg d.name=some (.ref fa)→
   ∃fd:FuncData,(∀(s:Shared)(u:Value),BindsTo s fd ⟨[u],[]⟩ [("script",u)])∧∀base:Heap,(K w.params).In base→base.Ns mainGlobals mg→ij l.prog w (K w.params) mg base l5 20 fa fd ["script"] (G1 (K w.params))) :
  W.WalkO q loose XP YP l.row.toRowW d [] (fun f vs=>PySem.call f vs):=
 L2.LC (n:=63) (k:=20) (x:="script") (CX:=fun _=>l5) (sp:=fun w=>G1 (K w.params)) hn (by decide) R4 ⟨rfl,by decide,by decide⟩ hY F (fun _ _ a ns hl _ hS=>⟨a,ns,rfl,hS,hl,fun _=>rfl⟩) fun _ _ _ _ _ z=>z
end PK
open PySem PySem.W PyProof.Rows
theorem PySem.Challenge.cw_patchkin_k09_whole_any_order_holds : PySem.Challenge.rw_patchkin_k09_whole_any_order.Holds := by
 w_on;o_law;k_head;(case hw=>w_witness2)
 k_fill
 refine PK.walk (l:=PySem.Challenge.rw_patchkin_k09_whole_any_order) rfl rfl (fun w h Y=>PySem.W.kIn_of Y) ?F
 case F=>
  intro w mg fa h KX G R5
  refine' PK.all_mk KX G R5 ?zqCZ ?zqAm ?zqAn ?zqC0 ?zqh0 ?zqh1 ?zqh2 ?zqh3 ?zqh4 ?zqh5 ?zqh6 ?zqh7 ?zqh8 ?zqh9 ?zqUv ?zqS3 ?zqXH ?zqXI ?zqXJ ?zqXM ?zqXN ?zqXO ?zqXQ ?zqXR ?zqUw ?zqS4 ?zqXT ?zqXU ?zqXW ?zqXX ?zqXY ?zqXZ ?zqX0 ?zqX_ ?zqYa ?zqYb ?zqYc ?zqYd ?zqYe ?zqYf ?zqYg ?zqYh ?zqYi ?zqYj ?zqUx ?zqS6 ?zqYk ?zqYl ?zqYm ?zqYn ?zqYo ?zqYp ?zqYq ?zqYr ?zqUy ?zqS8 ?zqYs ?zqYt ?zqYu ?zqYv ?zqNB ?zqYw ?zqYx ?zqYy ?zqYz ?zqC1 ?zqC2 ?zqC3 ?zqC4 ?zqC5 ?zqC6 ?zqgH ?zqjG ?zqiD ?zqiE ?zqAo ?zqAp ?zqAq ?zqAr ?zqAs ?zqAu ?zqiW ?zqj9 ?zqjK ?zqjL ?zqiY ?zqAv ?zqAw ?zqAx ?zqAy ?zqAz ?zqAA ?zqjw ?zqip ?zqC7 ?zqC8 ?zqC9 ?zqC_ ?zqDc ?zqDd ?zqiO ?zqjd ?zqiw ?zqpf ?zquA ?zqqI ?zquB ?zquC ?zqxm ?zqqJ ?zqDe ?zqAB ?zqph ?zqm_ ?zqKZ ?zqDf ?zqK0 ?zqqK ?zqK1 ?zqGi ?zqGj ?zqDg ?zqK2 ?zquD ?zqAD ?zqK3 ?zqsP ?zqqL ?zqpj ?zquE ?zqqM ?zquF ?zquG ?zqxn ?zqqN ?zqDh ?zqAE
  (case zqCZ|zqAm|zqAn|zqC0=>k_is)
  (case zqh0|zqh1|zqh2|zqh3|zqh4|zqh5|zqh6|zqh7|zqh8|zqh9|zqUv|zqS3|zqXH|zqXI|zqXJ|zqXM|zqXN|zqXO|zqXQ|zqXR|zqUw|zqS4|zqXT|zqXU|zqXW|zqXX|zqXY|zqXZ|zqX0|zqX_|zqYa|zqYb|zqYc|zqYd|zqYe=>refine' L2.Rl ?a ?l ?c ?k;(case a=>k_is);(case l=>k_is);(case c=>k_is);(case k=>k_is))
  (case zqYf|zqYg|zqYh|zqYi|zqYj|zqUx|zqS6|zqYk|zqYl|zqYm|zqYn|zqYo|zqYp|zqYq|zqYr|zqUy|zqS8|zqYs|zqYt|zqYu|zqYv|zqNB|zqYw|zqYx|zqYy|zqYz=>refine' L2.Rm ?a ?i ?l ?c ?k;(case a=>k_is);(case i=>k_is);(case l=>k_is);(case c=>k_is);(case k=>k_is))
  (case zqC1|zqC2|zqC3|zqC4|zqC5|zqC6|zqgH|zqjG|zqiD|zqiE|zqAo|zqAp|zqAq|zqAr|zqAs|zqAu|zqiW|zqj9|zqjK|zqjL|zqiY|zqAv|zqAw|zqAx|zqAy|zqAz|zqAA|zqjw|zqip|zqC7|zqC8|zqC9|zqC_|zqDc|zqDd|zqiO|zqjd|zqiw|zqpf|zquA|zqqI|zquB|zquC|zqxm|zqqJ|zqDe|zqAB|zqph|zqm_|zqKZ|zqDf|zqK0|zqqK|zqK1|zqGi|zqGj|zqDg|zqK2|zquD|zqAD|zqK3|zqsP|zqqL=>k_is)
  (case zqpj|zquE|zqqM|zquF|zquG|zqxn|zqqN|zqDh|zqAE=>k_exc)
