"""The one way in: a list of calls on a new house, and what they answer."""

from zonerights.layout import are_in_range, read_calls
from zonerights.line_calls import add_line, change_rooms, outage
from zonerights.records import House
from zonerights.refusals import NO_HOUSE, NOT_AS_TOLD
from zonerights.right_calls import give_back, grant, tell_keep, tell_most
from zonerights.trade_calls import annul, chain, join_rights, pass_on, split_via

LAST_PLACE = 12


def answers(calls):
    house = House()
    told = []
    for call in read_calls(calls):
        answer = answer_to(house, call)
        told.append(len(answer))
        told.extend(answer)
    return told


def answer_to(house, call):
    if call.place > LAST_PLACE or not are_in_range(call.numbers):
        return [NOT_AS_TOLD]
    if call.place == 0:
        house.begin(call.numbers["zones"])
        return [0]
    if not house.is_begun():
        return [NO_HOUSE]
    if call.place <= 3:
        return answer_to_line_call(house, call)
    if call.place <= 7:
        return answer_to_right_call(house, call)
    return answer_to_trade_call(house, call)


def answer_to_line_call(house, call):
    if call.place == 1:
        return add_line(house, call.numbers)
    if call.place == 2:
        return change_rooms(house, call.numbers)
    return outage(house, call.numbers)


def answer_to_right_call(house, call):
    if call.place == 4:
        return grant(house, call.numbers)
    if call.place == 5:
        return tell_most(house, call.numbers)
    if call.place == 6:
        return give_back(house, call.numbers)
    return tell_keep(house, call.numbers)


def answer_to_trade_call(house, call):
    if call.place == 8:
        return pass_on(house, call.numbers)
    if call.place == 9:
        return join_rights(house, call.numbers)
    if call.place == 10:
        return chain(house, call.numbers)
    if call.place == 11:
        return split_via(house, call.numbers)
    return annul(house, call.numbers)
