"""Which deeds the editions of a system name."""


def deeds_of(system):
    """Returns the lot of the names of all deeds and opposites in the lines of a system's editions."""
    forms = [form for plan in system.editions for form in plan.forms if form[0] == "do"]
    opposites = [form[2] for form in forms if form[2] is not None]
    return tuple(sorted(set([form[1] for form in forms] + opposites)))
