"""The one way in: a list of calls on a new house, and what they answer."""

from zonerights.bid_calls import add_bid, award, take_bid_away
from zonerights.layout import is_as_told, read_calls
from zonerights.line_calls import add_line, change_rooms, outage
from zonerights.money_calls import pay_in, tell_accounts, tell_money
from zonerights.price_calls import settle, tell_payout, tell_value
from zonerights.records import House
from zonerights.refusals import NO_HOUSE, NOT_AS_TOLD
from zonerights.right_calls import give_back, grant, tell_keep, tell_most
from zonerights.tell_calls import tell_group, tell_rights, tell_state, tell_tight
from zonerights.trade_calls import annul, chain, join_rights, pass_on, split_via


def answers(calls):
    house = House()
    told = []
    for call in read_calls(calls):
        answer = answer_to(house, call)
        told.append(len(answer))
        told.extend(answer)
    return told


def answer_to(house, call):
    if not is_as_told(call):
        return [NOT_AS_TOLD]
    if call.place == 0:
        house.begin(call.numbers["zones"])
        return [0]
    if not house.is_begun():
        return [NO_HOUSE]
    if call.place <= 3:
        return answer_to_line_call(house, call)
    if call.place <= 7:
        return answer_to_right_call(house, call)
    if call.place <= 12:
        return answer_to_trade_call(house, call)
    if call.place <= 15:
        return answer_to_bid_call(house, call)
    if call.place <= 19:
        return answer_to_row_call(house, call)
    return answer_to_last_call(house, call)


def answer_to_line_call(house, call):
    if call.place == 1:
        return add_line(house, call.numbers)
    if call.place == 2:
        return change_rooms(house, call.numbers)
    return outage(house, call.numbers)


def answer_to_right_call(house, call):
    if call.place == 4:
        return grant(house, call.numbers)
    if call.place == 5:
        return tell_most(house, call.numbers)
    if call.place == 6:
        return give_back(house, call.numbers)
    return tell_keep(house, call.numbers)


def answer_to_trade_call(house, call):
    if call.place == 8:
        return pass_on(house, call.numbers)
    if call.place == 9:
        return join_rights(house, call.numbers)
    if call.place == 10:
        return chain(house, call.numbers)
    if call.place == 11:
        return split_via(house, call.numbers)
    return annul(house, call.numbers)


def answer_to_bid_call(house, call):
    if call.place == 13:
        return add_bid(house, call.numbers)
    if call.place == 14:
        return take_bid_away(house, call.numbers)
    return award(house)


def answer_to_row_call(house, call):
    if call.place == 16:
        return settle(house, call.rows["prices"], call.rows["flows"])
    if call.place == 17:
        return tell_payout(house, call.rows["prices"])
    if call.place == 18:
        return tell_value(house, call.numbers, call.rows["prices"])
    return tell_group(house, call.rows["marks"])


def answer_to_last_call(house, call):
    if call.place == 20:
        return tell_tight(house)
    if call.place == 21:
        return tell_money(house, call.numbers)
    if call.place == 22:
        return pay_in(house, call.numbers)
    if call.place == 23:
        return tell_accounts(house)
    if call.place == 24:
        return tell_rights(house, call.numbers)
    return tell_state(house)
