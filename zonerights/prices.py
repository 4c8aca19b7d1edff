"""What rights and lines come to at prices, and whether flows fit them."""

from zonerights.records import OPTION


def rise(prices, start, end):
    return prices[end] - prices[start]


def worth(right, prices):
    paid = right.amount * rise(prices, right.source, right.sink)
    if right.kind == OPTION:
        return max(0, paid)
    return paid


def payouts(rights, prices):
    return sum([worth(right, prices) for right in rights])


def earned_by(line, prices):
    gain = rise(prices, line.first, line.second)
    return max(0, gain) * line.forth + max(0, 0 - gain) * line.back


def earnings(lines, prices):
    return sum([earned_by(line, prices) for line in lines])


def fits(line, flow, prices):
    gain = rise(prices, line.first, line.second)
    if flow > line.forth or flow < 0 - line.back:
        return False
    # While a line has room left it carries more to the dearer zone.
    if flow < line.forth and gain > 0:
        return False
    return not (flow > 0 - line.back and gain < 0)


def flows_fit(lines, flows, prices):
    return all([fits(line, flow, prices) for line, flow in zip(lines, flows)])


def rent(lines, flows, prices):
    return sum([flow * rise(prices, line.first, line.second) for line, flow in zip(lines, flows)])
