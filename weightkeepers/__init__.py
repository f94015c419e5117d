# Defines nothing: each name is imported from the module that defines it.
