"""Carriers: what they owe each other for tickets that one sells and another flies, and how few payments settle it."""

from interline.asking import require
from interline.charts import checked_chart
from interline.errors import PaperError
from interline.kinds import are_integers, are_strings, are_unlike, is_integer, is_row, is_short, is_within
from interline.limits import MAX_CARRIERS
from interline.subsets import members
from interline.tickets import reopen


def statement(net, carriers, log):
    """Return what carriers owe each other for what an office has done, a row of numbers for each of them."""
    chart = checked_chart(net)
    require(are_carriers(chart, carriers), "carriers")
    office = reopen(net, log)
    flyers = flyers_of(chart, carriers)
    owed = [[0 for _ in carriers] for _ in carriers]
    for ticket in office.tickets.values():
        seller = flyers[ticket.coupons[0].flight]
        for coupon in ticket.coupons:
            if coupon.state == "flown" and flyers[coupon.flight] != seller:
                owed[seller][flyers[coupon.flight]] += coupon.value
    return tuple([tuple(row) for row in owed])


def are_carriers(chart, value):
    """Tell whether a value is carriers of the net."""
    if not is_short(value, MAX_CARRIERS) or not all([is_carrier(part) for part in value]):
        return False
    if not are_unlike([name for name, _ in value]):
        return False
    return sorted([tail for _, tails in value for tail in tails]) == sorted(chart.tails)


def is_carrier(value):
    """Tell whether a value has the form of a carrier."""
    return is_row(value, 2) and isinstance(value[0], str) and are_strings(value[1])


def flyers_of(chart, carriers):
    """Return for each flight the place of the carrier that flies it."""
    return {flight: place for place, (_, tails) in enumerate(carriers) for tail in tails
            for flight in chart.tails[tail].flights}


def balances(owed):
    """Return for each carrier what the others owe it, less what it owes them."""
    require_owed(owed)
    return find_balances(owed)


def require_owed(value):
    """Raise ArgumentError unless a value is a square of what carriers owe each other."""
    require(is_short(value, MAX_CARRIERS) and all([is_row(row, len(value)) for row in value]), "owed")
    require(all([are_integers(row) and row[place] == 0 and min(row) == 0 for place, row in enumerate(value)]), "owed")


def find_balances(owed):
    """Return the balances of the carriers."""
    return tuple([sum([other[place] for other in owed]) - sum(row) for place, row in enumerate(owed)])


def group_table(owed):
    """Return for each set of carriers in how many groups with the sum 0 it can be parted, with others left over."""
    require_owed(owed)
    return tuple(find_table(find_balances(owed)))


def find_table(rests):
    """Return the entries of all sets of carriers, from 0 on."""
    table = []
    for number in range(1 << len(rests)):
        table.append(entry_for(rests, table, number))
    return table


def entry_for(rests, table, number):
    """Return the entry of a set of carriers, by those of lesser sets."""
    if number == 0:
        return 0
    best = max([table[number - (1 << place)] for place in members(number)])
    return best + 1 if is_even(rests, number) else best


def is_even(rests, number):
    """Tell whether the sum of the balances of a set is 0."""
    return sum([rests[place] for place in members(number)]) == 0


def accept_group_table(owed, table):
    """Return None if a value is the table; otherwise raise PaperError."""
    require_owed(owed)
    if not is_row(table, 1 << len(owed)) or not are_integers(table):
        raise PaperError("form")
    rests = find_balances(owed)
    if any([entry != entry_for(rests, table, number) for number, entry in enumerate(table)]):
        raise PaperError("entry")


def least_payments(owed):
    """Return the fewest payments (from, to, amount) that settle what is owed."""
    require_owed(owed)
    rests = find_balances(owed)
    payments = []
    for places in groups_of(rests, find_table(rests)):
        payments.extend(settle_group(rests, places))
    return tuple(payments)


def groups_of(rests, table):
    """Return the most groups with the sum 0 that all carriers can be parted in."""
    groups = []
    number = len(table) - 1
    while number > 0:
        if is_even(rests, number):
            groups.append([])
        # Each carrier that leaves belongs to the group that was closed last.
        best = [place for place in members(number)
                if table[number] - table[number - (1 << place)] == (1 if is_even(rests, number) else 0)]
        groups[-1].append(best[0])
        number -= 1 << best[0]
    return groups


def settle_group(rests, places):
    """Return payments that settle a group with the sum 0, one less than it has carriers."""
    left = sorted([[rests[place], place] for place in places])
    payments = []
    while len(left) > 1:
        # Who owes most pays whom most is owed, so that one of the two is settled.
        amount = min(-left[0][0], left[-1][0])
        payments.append((left[0][1], left[-1][1], amount))
        left[0][0] = left[0][0] + amount
        left[-1][0] = left[-1][0] - amount
        left = sorted([row for row in left if row[0] != 0])
    return payments


def accept_payments(owed, payments, table):
    """Return None if payments settle what is owed and are the fewest, by the table; otherwise raise PaperError."""
    accept_group_table(owed, table)
    if not isinstance(payments, tuple) or not all([is_payment(part, len(owed)) for part in payments]):
        raise PaperError("payments")
    if any([rest != 0 for rest in rests_behind(owed, payments)]):
        raise PaperError("settled")
    if len(payments) != len(owed) - table[-1]:
        raise PaperError("number")


def is_payment(value, many):
    """Tell whether a value is a payment among so many carriers."""
    if not is_row(value, 3) or not is_integer(value[2]) or value[2] < 1:
        return False
    return is_within(value[0], 0, many - 1) and is_within(value[1], 0, many - 1)


def rests_behind(owed, payments):
    """Return the balances of the carriers behind some payments."""
    rests = list(find_balances(owed))
    for payer, payee, amount in payments:
        rests[payer] += amount
        rests[payee] -= amount
    return rests
