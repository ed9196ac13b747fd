"""Names that are meant by their beginnings."""

from wordbench.errors import NoName


def meant(names, beginning):
    if beginning == "":
        return []
    if beginning in names:
        return [beginning]
    return sorted([name for name in names if name.startswith(beginning)])


def least_beginning(names, name):
    if name not in names:
        raise NoName(name)
    for many in range(1, len(name)):
        if meant(names, name[:many]) == [name]:
            return name[:many]
    return name
