"""Plans over all sticks: what each set of promises loses at least, and the best plan."""

from icecuts.rows import best_row, row_table


# losses[n][a set] is the least lost if just the set is taken from the sticks
# behind the first n. What can't be has no entry.
class PlanTable:
    def __init__(self, sticks, promises, saw):
        self.everything = (1 << len(promises)) - 1
        self.rows = [row_table(stick, promises, saw) for stick in sticks]
        self.losses = losses_by_stick(self.rows, self.everything)


# From the last stick to the first: each needs what the sticks behind it lose.
def losses_by_stick(tables, everything):
    losses = [{0: 0}]
    for rows in reversed(tables):
        losses.append(joined_losses(rows, losses[-1], everything))
    losses.reverse()
    return losses


def joined_losses(rows, later, everything):
    losses = {}
    for chosen in range(everything + 1):
        found = best_share(rows, later, chosen)
        if found is not None:
            losses[chosen] = found[0]
    return losses


# What's lost, then the number of the stick's own set: of shares that lose
# alike the least number is to be chosen.
def best_share(rows, later, chosen):
    found = []
    for share in rows.whole:
        if share & chosen == share and chosen - share in later:
            found.append((rows.whole[share] + later[chosen - share], share))
    return min(found, default=None)


def least_lost(table, chosen):
    return table.losses[0].get(chosen)


# Only for a set that can be kept: a row for each stick, of promises' numbers
# with their places.
def best_plan(table, chosen):
    plan = []
    for stick_number, rows in enumerate(table.rows):
        share = best_share(rows, table.losses[stick_number + 1], chosen)[1]
        plan.append(best_row(rows, share))
        chosen -= share
    return plan
