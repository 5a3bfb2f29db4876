"""Plans: the table of least costs, the least plan, how many there are, and what a plan takes and costs.

A row of the table has a number for each number of holes from 0 to the file's, or None where nothing fits.
"""

from notchplan.model import CardFile, with_only_code


def table(file):
    """The table's rows: one for each field and one behind them."""
    rows = [last_row(file, 0)]
    for field in reversed(file.fields):
        rows.append(row_ahead(field, rows[-1]))
    return list(reversed(rows))


def last_row(file, number):
    """A row behind the last field, the same for each number of holes."""
    return [number] * (file.holes + 1)


def row_ahead(field, behind):
    """The field's row of the table, from the next row."""
    return [least_of(costs_with(field, behind, holes)) for holes in range(len(behind))]


def costs_with(field, behind, holes):
    """For each code the least cost from the field on, with that code and so many holes; None if nothing fits."""
    costs = []
    for code in field.codes:
        rest = behind[holes - code.holes] if code.holes <= holes else None
        costs.append(None if rest is None else field.cost_in_all(code) + rest)
    return costs


def least_of(costs):
    """The least of the costs that there are; None if there are none."""
    return min([cost for cost in costs if cost is not None], default=None)


def curve(file):
    """For each number of holes from 0 to the file's the least cost of a plan that fits; None if none does."""
    return table(file)[0]


def least_cost(file):
    """What the least plan costs; None if no plan fits."""
    return curve(file)[file.holes]


def least_plan(file):
    """The first of the plans of least cost; None if no plan fits."""
    rows = table(file)
    if rows[0][file.holes] is None:
        return None
    plan = []
    holes = file.holes
    for number, field in enumerate(file.fields):
        # The first code that keeps to the table's cost makes the plan the first of several.
        costs = costs_with(field, rows[number + 1], holes)
        chosen = costs.index(rows[number][holes])
        plan.append(chosen)
        holes -= field.codes[chosen].holes
    return plan


def least_plan_with(file, i, c):
    """The first of the plans of least cost that have code c for field i; None if none of these fits."""
    plan = least_plan(CardFile(file.holes, with_only_code(file.fields, i, c)))
    if plan is None:
        return None
    return plan[:i] + [c] + plan[i + 1:]


def least_count(file):
    """How many plans that fit cost the least."""
    costs = last_row(file, 0)
    counts = last_row(file, 1)
    for field in reversed(file.fields):
        counts = counts_ahead(field, costs, counts)
        costs = row_ahead(field, costs)
    return counts[file.holes]


def counts_ahead(field, costs, counts):
    """For each number of holes how many rows of codes from the field on cost the least, from the next such row."""
    return [count_with(field, costs, counts, holes) for holes in range(len(costs))]


def count_with(field, costs_behind, counts_behind, holes):
    costs = costs_with(field, costs_behind, holes)
    least = least_of(costs)
    count = 0
    for code, cost in zip(field.codes, costs):
        if cost is not None and cost == least:
            count += counts_behind[holes - code.holes]
    return count


def is_plan(file, row):
    """Whether the row has the number of one of its codes for each field."""
    if len(row) != len(file.fields):
        return False
    return all([0 <= number < len(field.codes) for number, field in zip(row, file.fields)])


def plan_holes(file, plan):
    """How many holes the plan's codes take together."""
    return sum([field.codes[number].holes for number, field in zip(plan, file.fields)])


def plan_cost(file, plan):
    """What the plan's codes cost in all, together."""
    return sum([field.cost_in_all(field.codes[number]) for number, field in zip(plan, file.fields)])
