"""The patch from the old table to the new one, told as numbers."""

from matchedrows.pairs import lone_numbers, told_pairs, turned
from matchedrows.table import is_empty


def told_patch(old, new, columns, rows):
    old_side = told_side(old, new, columns, rows)
    new_side = told_side(new, old, turned(columns), turned(rows))
    return told_pairs(columns) + told_pairs(rows) + old_side + new_side


# Columns and rows are told in pairs of the side's own and the other side's.
def told_side(side, other, columns, rows):
    lone = lone_numbers([row for row, other_row in rows], len(side.rows))
    told = told_names(side.names) + [len(side.rows)] + told_lone_rows(side, lone)
    return told + told_cells(side, other, columns, rows)


def told_names(names):
    told = [len(names)]
    for name in names:
        told.append(len(name))
        told.extend(name)
    return told


def told_lone_rows(side, lone):
    told = [len(lone)]
    for row in lone:
        told.append(row)
        for cell in side.rows[row]:
            told.extend(cell)
    return told


def told_cells(side, other, columns, rows):
    matched = dict(columns)
    count = 0
    told = []
    for row, other_row in rows:
        for column, cell in enumerate(side.rows[row]):
            if is_told(cell, other.rows[other_row], matched.get(column)):
                count += 1
                told.extend([row, column] + cell)
    return [count] + told


# The other side's column is None for a lone one.
def is_told(cell, other_row, other_column):
    if other_column is None:
        return not is_empty(cell)
    return cell != other_row[other_column]
