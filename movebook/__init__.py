"""Movebook: a drawing that is kept, moved and asked, with exact fractions."""
