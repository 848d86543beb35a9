"""Plans over all sticks: what each set of promises loses at least, and the plans and sets chosen."""

from icecuts.rows import best_row, row_table


# losses[n][a set] is the least lost if just the set is taken from the sticks
# behind the first n. What can't be has no entry.
class PlanTable:
    def __init__(self, sticks, promises, saw):
        self.everything = (1 << len(promises)) - 1
        self.rows = [row_table(stick, promises, saw) for stick in sticks]
        self.losses = losses_by_stick([rows.whole for rows in self.rows], self.everything)


# From the last stick to the first: each needs what the sticks behind it lose.
def losses_by_stick(wholes, everything):
    losses = [{0: 0}]
    for whole in reversed(wholes):
        losses.append(joined_losses(whole, losses[-1], everything))
    losses.reverse()
    return losses


def joined_losses(whole, later, everything):
    losses = {}
    for chosen in range(everything + 1):
        found = best_share(whole, later, chosen)
        if found is not None:
            losses[chosen] = found[0]
    return losses


# What's lost, then the number of the stick's own set: of shares that lose
# alike the least number is to be chosen.
def best_share(whole, later, chosen):
    found = []
    for share in whole:
        if share & chosen == share and chosen - share in later:
            found.append((whole[share] + later[chosen - share], share))
    return min(found, default=None)


def least_lost(table, chosen):
    return table.losses[0].get(chosen)


# Only for a set that can be kept: a row for each stick, of promises' numbers
# with their places.
def best_plan(table, chosen):
    plan = []
    for stick_number, rows in enumerate(table.rows):
        share = best_share(rows.whole, table.losses[stick_number + 1], chosen)[1]
        plan.append(best_row(rows, share))
        chosen -= share
    return plan


# All promises are kept, and this one comes from this stick.
def least_lost_from(table, number, stick_number):
    wholes = [rows.whole for rows in table.rows]
    wholes[stick_number] = losses_with(wholes[stick_number], number)
    return losses_by_stick(wholes, table.everything)[0].get(table.everything)


def losses_with(whole, number):
    losses = {}
    for share in whole:
        if share & (1 << number):
            losses[share] = whole[share]
    return losses


def numbers_of(chosen):
    return [number for number in range(chosen.bit_length()) if chosen & (1 << number)]


# Promises that can't all be kept, none of them needless; the empty set if all
# promises can be kept.
def clashing_set(table):
    chosen = table.everything
    if least_lost(table, chosen) is not None:
        return 0
    for number in numbers_of(table.everything):
        fewer = chosen - (1 << number)
        if least_lost(table, fewer) is None:
            chosen = fewer
    return chosen


def worth_of(promises, chosen):
    return sum([promises[number].worth for number in numbers_of(chosen)])


# The most worth, then the least lost, then the least number.
def richest_set(table, promises):
    found = []
    for chosen in table.losses[0]:
        found.append((-worth_of(promises, chosen), table.losses[0][chosen], chosen))
    return min(found)[2]
