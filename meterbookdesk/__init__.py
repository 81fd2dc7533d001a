"""A book of meters, tables and values over time, exact to the last digit."""
